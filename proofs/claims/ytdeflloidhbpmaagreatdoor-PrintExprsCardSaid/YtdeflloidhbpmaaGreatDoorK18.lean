/-
  parse: what ends it wherever it is, is caught.
-/
import Derived.Test.YtdeflloidhbpmaaGreatDoorK17
import Derived.Defers
import Derived.Recover
namespace Go.Proofs.YtdeflloidhbpmaaGreatDoor
open Go.RowKit

def loAt (T : List Tk) (i : Nat) : Nat := (T.getD i ⟨0, 0, 0, []⟩).lo
theorem loAt_at {T : List Tk} {i : Nat} (h : i < T.length) : loAt T i = T[i].lo := by simp [loAt, h]
theorem Gone.below {C : Cx} {c i : Nat} {w w' : World} (h : Gone C c i w) (hB : Below w.heap.size w w') : Gone C c i w' := by
  obtain ⟨h1, h2, ve, vs, vf, h3⟩ := h
  have hq := (Array.getElem?_eq_some_iff.1 h3).1
  exact ⟨h1, h2.keep fun k hk => hB.block k (by omega), ve, vs, vf, (hB.block C.q hq).trans h3⟩
set_option maxRecDepth 100000 in
set_option maxHeartbeats 1000000 in
theorem from_gone (C : Cx) (c i : Nat) (_hlen : C.T.length ≤ 20001) (w : World) (h : Gone C c i w) :
    Calls Tryz.prog 48 #[.pointer (some ⟨C.q, 0, none⟩)] w fun e w' => e = .returned (.int .i64 (loAt C.T i : Int)) ∧ Below w.heap.size w w' := by
  obtain ⟨hlt, ⟨bt, ot, ct, bx, ox, cx, htv, _, _, _, hc⟩, ve, vs, vf, hb⟩ := h
  have c2 := (hc i hlt).2.1
  rw [← loAt_at hlt] at c2
  have d0 : w.cell? ⟨C.q, 0, none⟩ = some C.tv := by simp [World.cell?, hb]
  have d2 : w.cell? ⟨C.q, 2, none⟩ = some (.int .i64 (i : Int)) := by simp [World.cell?, hb]
  rw [htv] at d0
  clear hc hb
  generalize loAt C.T i = t at *
  generalize hqq : C.q = q at *
  have h0 : (0 : Int) ≤ (i : Int) := by omega
  have h1 : (i : Int) < (C.T.length : Int) := by omega
  clear htv hqq
  go_enter Tryz.func48, Tryz.ntmps48
  go_wp2
  go_quiet (fail)
  go_wp2
  go_ret
  exact ⟨rfl, below_drewN (Below.refl _ w) _⟩

/-- What the deferred closure leaves, where it catches. -/
structure Caught (b3 b4 lo c : Nat) (w w' : World) : Prop where
  p3 : w'.cell? ⟨b3, 0, none⟩ = some (.int .i64 (lo : Int))
  p4 : w'.cell? ⟨b4, 0, none⟩ = some (.int .i64 (c : Int))
  below : ∀ B, B ≤ b3 → B ≤ b4 → B ≤ w.heap.size → Below B w w'

theorem caught_of {w w2 : World} {b3 b4 lo c : Nat} {t u : TypeId} (hB : Below w.heap.size w w2) (h3 : w2.heap[b3]? = some (.cells #[.int .i64 0] t (0, 0))) (h4 : w2.heap[b4]? = some (.cells #[.int .i64 0] u (0, 0))) (_hl3 : b3 < w.heap.size) (_hl4 : b4 < w.heap.size) (h34 : b3 ≠ b4) :
    Caught b3 b4 lo c w ((w2.setCell ⟨b3, 0, none⟩ (.int .i64 (lo : Int))).setCell ⟨b4, 0, none⟩ (.int .i64 (c : Int))) := by
  have e3 := setCell_at w2 b3 0 (.int .i64 (lo : Int)) _ _ _ h3
  have e4 := (setCell_ne w2 b3 0 (.int .i64 (lo : Int)) b4 (Ne.symm h34)).trans h4
  have e5 := setCell_at (w2.setCell ⟨b3, 0, none⟩ (.int .i64 (lo : Int))) b4 0 (.int .i64 (c : Int)) _ _ _ e4
  have e6 := (setCell_ne (w2.setCell ⟨b3, 0, none⟩ (.int .i64 (lo : Int))) b4 0 (.int .i64 (c : Int)) b3 h34).trans e3
  refine ⟨?_, ?_, fun B h1 h2 h3 => ?_⟩
  · simp only [World.cell?, e6]; rfl
  · simp only [World.cell?, e5]; rfl
  · exact ((hB.mono h3).setCell (p := ⟨b3, 0, none⟩) h1 _).setCell (p := ⟨b4, 0, none⟩) h2 _

set_option maxRecDepth 100000 in
set_option maxHeartbeats 1000000 in
theorem catch_panic (C : Cx) (c i : Nat) (hlen : C.T.length ≤ 20001) (b1 b3 b4 : Nat) (u : TypeId) (pv : Value) (older : List PanicEntry) (w : World) (h : Gone C c i w) (c1 : w.cell? ⟨b1, 0, none⟩ = some (.pointer (some ⟨C.q, 0, none⟩)))
    (h3 : w.heap[b3]? = some (.cells #[.int .i64 0] 3 (0, 0))) (h4 : w.heap[b4]? = some (.cells #[.int .i64 0] 33 (0, 0))) (h34 : b3 ≠ b4) :
    CallsD Tryz.prog 47 #[.pointer (some ⟨b1, 0, none⟩), .pointer (some ⟨b3, 0, none⟩), .pointer (some ⟨b4, 0, none⟩)] (.panicking ({ v := .iface u pv, recovered := false } :: older)) w fun e u' w' =>
      e = .returned (.tuple #[]) ∧ u' = .panicking ({ v := .iface u pv, recovered := true } :: older) ∧ Caught b3 b4 (loAt C.T i) c w w' := by
  have hfr := Lib.hid (fun W (hB : Below w.heap.size w W) => from_gone C c i hlen W (h.below hB))
  have hq := (Array.getElem?_eq_some_iff.1 h.2.2.choose_spec.choose_spec.choose_spec).1
  have HF : Hid (w.cell? ⟨C.q, 3, none⟩ = some (.int .i64 (c : Int))) := Lib.hid (by
    obtain ⟨_, _, ve, vs, vf, hb⟩ := h
    simp [World.cell?, hb])
  have H3 := Lib.hid h3
  have H4 := Lib.hid h4
  have hl1 := World.block_lt_of_cell? w _ c1
  have hl3 := blk_lt h3
  have hl4 := blk_lt h4
  generalize loAt C.T i = lo at *
  clear h h3 h4
  refine callsD_of_wpS Tryz.func47 rfl fun c₀ cs hu => ?_
  apply wpS_seq
  apply wpS_region
  simp [wpOpsS, go_sem, recoverD, hu, Tryz.ntmps47, Exit.thenS]
  refine wpS_cond (t := true) (by simp [Act.eval, Array.replicate]) ?_
  simp only [if_true]
  refine wpS_of_wp ?_
  have HBR := Lib.hid (Below.refl w.heap.size w).drew
  have HC1 := Lib.hid c1
  have cd1 : w.drew.cell? ⟨b1, 0, none⟩ = some (.pointer (some ⟨C.q, 0, none⟩)) := c1
  have cd3 : w.drew.cell? ⟨C.q, 3, none⟩ = some (.int .i64 (c : Int)) := HF.out
  go_region_with (go_at_call 48; refine (hfr.out _ HBR.out).mono ?_; rintro e w2 ⟨rfl, hB⟩; have HB := Lib.hid (HBR.out.trans (hB.mono HBR.out.size)); have k1 : w2.cell? ⟨b1, 0, none⟩ = some (.pointer (some ⟨C.q, 0, none⟩)) := ((HB.out.cell (p := ⟨b1, 0, none⟩) hl1).trans HC1.out); have k2 : w2.cell? ⟨C.q, 3, none⟩ = some (.int .i64 (c : Int)) := ((HB.out.cell (p := ⟨C.q, 3, none⟩) hq).trans HF.out); have K3 := Lib.hid ((HB.out.block b3 hl3).trans H3.out); have K4 := Lib.hid ((HB.out.block b4 hl4).trans H4.out); have k3 : w2.frozen? ⟨b3, 0, none⟩ = false := (by simp [World.frozen?, K3.out]); have k4 : w2.frozen? ⟨b4, 0, none⟩ = false := (by simp [World.frozen?, K4.out]); have k5 : w2.cell? ⟨b3, 0, none⟩ = some (.int .i64 0) := (by simp [World.cell?, K3.out]); have k6 : w2.cell? ⟨b4, 0, none⟩ = some (.int .i64 0) := (by simp [World.cell?, K4.out]); clear hB)
  all_goals
    have HCA := Lib.hid (caught_of (lo := lo) (c := c) HB.out K3.out K4.out hl3 hl4 h34)
    clear k3 k4 k5 k6 k1 k2 cd1 cd3 c1
    simp [bodyPostS, results, Tryz.results47]
    exact HCA.out

set_option maxHeartbeats 1000000 in
theorem catch_idle (b1 b3 b4 : Nat) (w : World) : CallsD Tryz.prog 47 #[.pointer (some ⟨b1, 0, none⟩), .pointer (some ⟨b3, 0, none⟩), .pointer (some ⟨b4, 0, none⟩)] .returning w fun e u' w' => e = .returned (.tuple #[]) ∧ u' = .returning ∧ w' = w := by
  refine callsD_of_wpS Tryz.func47 rfl fun c₀ cs hu => ?_
  apply wpS_seq
  apply wpS_region
  simp [wpOpsS, go_sem, recoverD, hu, Tryz.ntmps47, Exit.thenS]
  refine wpS_cond (t := false) (by simp [Act.eval, Array.replicate]) ?_
  simp only [Bool.false_eq_true, if_false]
  refine wpS_of_wp (wp_skip ?_)
  cases c₀
  simp_all [bodyPostS, results, Tryz.results47]

/-- What parse answers. -/
def ParsePost (C : Cx) (r : Rs Unit) (w : World) (e : Ending) (w' : World) : Prop :=
  match r with
  | .ok _ s' => ∃ v, e = .returned (.tuple #[v, .int .i64 0, .int .i64 0]) ∧ TrIn (fun g => C.q < g) w' v s' ∧ Below C.q w w'
  | .no c i => e = .returned (.tuple #[.agg #[.slice none 0 0, .slice none 0 0, .slice none 0 0], .int .i64 (loAt C.T i : Int), .int .i64 (c : Int)]) ∧ i < C.T.length ∧ Below C.q w w'
theorem heap_last (W : World) (o : Obj) : (W.alloc o).heap[W.heap.size]? = some o := by
  show (W.heap.push o)[W.heap.size]? = _
  rw [Array.getElem?_push, if_pos (by simp)]
theorem alloc_size (W : World) (o : Obj) : (W.alloc o).heap.size = W.heap.size + 1 := by simp
theorem alloc4 (w : World) (a b c d : Obj) : let W := (((w.alloc a).alloc b).alloc c).alloc d
    W.heap.size = w.heap.size + 4 ∧ Below w.heap.size w W ∧ W.heap[w.heap.size]? = some a ∧ W.heap[w.heap.size + 1]? = some b ∧ W.heap[w.heap.size + 2]? = some c ∧ W.heap[w.heap.size + 3]? = some d := by
  have b3 : ∀ (W : World) (o : Obj) (k : Nat) (x : Obj), W.heap[k]? = some x → (W.alloc o).heap[k]? = some x := fun W o k x hx => (Below.heap_alloc W o k (blk_lt hx)).trans hx
  have l2 := heap_last (w.alloc a) b
  have l3 := heap_last ((w.alloc a).alloc b) c
  have l4 := heap_last (((w.alloc a).alloc b).alloc c) d
  simp only [alloc_size] at l2 l3 l4
  exact ⟨by simp, ((((Below.refl _ w).alloc (Nat.le_refl _) a).alloc (by simp) b).alloc (by simp; omega) c).alloc (by simp; omega) d, b3 _ d _ _ (b3 _ c _ _ (b3 _ b _ _ (heap_last w a))), b3 _ d _ _ (b3 _ c _ _ l2), b3 _ d _ _ l3, l4⟩
/-- Blocks but those of P are as they were. -/
structure OutOf (P : Nat → Prop) (w w' : World) : Prop where
  os : w'.os = w.os
  tape : w'.tape = w.tape
  output : w'.output = w.output
  size : w'.heap.size = w.heap.size
  block : ∀ k, ¬ P k → w'.heap[k]? = w.heap[k]?
theorem OutOf.refl (P : Nat → Prop) (w : World) : OutOf P w w := ⟨rfl, rfl, rfl, rfl, fun _ _ => rfl⟩
theorem OutOf.set {P : Nat → Prop} {a w : World} (h : OutOf P a w) {b : Nat} (o : Nat) (u : Value) (hb : P b) : OutOf P a (w.setCell ⟨b, o, none⟩ u) :=
  ⟨h.os, h.tape, h.output, by simp [World.setCell, h.size], fun k hk => (setCell_ne w b o u k (fun e => hk (e ▸ hb))).trans (h.block k hk)⟩
def Four (n b : Nat) : Prop := n ≤ b ∧ b < n + 4

set_option maxRecDepth 100000 in
set_option maxHeartbeats 4000000 in
theorem parse_calls (C : Cx) (s : Sg) (w : World) (h : PAt C (fun _ => False) 0 s w) :
    Calls Tryz.prog 28 #[.pointer (some ⟨C.q, 0, none⟩)] w (ParsePost C (programM C.T s) w) := by
  have hmf : ∀ (fn : Fn) (first cap : Array Value) (w : World), (Instr.makeFunc fn first cap).run Tryz.prog w = .ok (.func fn first cap) w := fun _ _ _ _ => rfl
  have hlen := h.len
  have hq := h.qlt
  obtain ⟨z1, z2, z3, z4, z5, z6⟩ := alloc4 w (.cells #[.pointer (some ⟨C.q, 0, none⟩)] 74) (.cells #[.slice none 0 0, .slice none 0 0, .slice none 0 0] 27) (.cells #[.int .i64 0] 3) (.cells #[.int .i64 0] 33)
  have hP := h.move (S' := Four w.heap.size) z2.size (fun k hk _ => z2.block k hk) (fun b hb => ⟨by have := hb.2; omega, .inr hb.1⟩)
  have HPR := Lib.hid (program_calls C (Four w.heap.size) s _ hP)
  have HZ2 := Lib.hid z2
  have HZ3 := Lib.hid z3
  have HZ4 := Lib.hid z4
  have HZ5 := Lib.hid z5
  have HZ6 := Lib.hid z6
  generalize programM C.T s = R at *
  clear h z1 z2 z3 z4 z5 z6 hP
  go_enter_defers Tryz.func28, Tryz.ntmps28
  go_wp2_with fail
  refine HPR.out.mono ?_
  intro e w1 h1
  cases R with
  | no c i =>
    obtain ⟨he, hg, hk⟩ := h1
    subst he
    have k1 := Lib.hid ((hk.kept _ ⟨Nat.le_refl _, by omega⟩).trans HZ3.out)
    have k2 := Lib.hid ((hk.kept _ ⟨by omega, by omega⟩).trans HZ4.out)
    have k3 := Lib.hid ((hk.kept _ ⟨by omega, by omega⟩).trans HZ5.out)
    have k4 := Lib.hid ((hk.kept _ ⟨by omega, by omega⟩).trans HZ6.out)
    have HG := Lib.hid hg
    have HK := Lib.hid hk.below
    have hs1 := blk_lt k4.out
    have HCP := Lib.hid (catch_panic C c i hlen w.heap.size (w.heap.size + 1 + 1) (w.heap.size + 1 + 1 + 1) 33 (.int .i64 (c : Int)) [] w1 hg (by simp [World.cell?, k1.out]) k3.out k4.out (by omega))
    clear hg hk
    go_wp2
    refine leaves_cons (f := 47) (args := #[.pointer (some ⟨w.heap.size, 0, none⟩), .pointer (some ⟨w.heap.size + 1 + 1, 0, none⟩), .pointer (some ⟨w.heap.size + 1 + 1 + 1, 0, none⟩)]) (by simp) (by simp [go_sem]) ?_
    refine HCP.out.mono ?_
    rintro e u' w2 ⟨rfl, rfl, hca⟩
    have p3 := hca.p3
    have p4 := hca.p4
    have hb2 := Lib.hid (((hca.below (w.heap.size + 2) (Nat.le_refl _) (by omega) (by omega)).block (w.heap.size + 1) (by omega)).trans k2.out)
    have q0 : w2.cell? ⟨w.heap.size + 1, 0, none⟩ = some (.slice none 0 0) := by simp [World.cell?, hb2.out]
    have q1 : w2.cell? ⟨w.heap.size + 1, 1, none⟩ = some (.slice none 0 0) := by simp [World.cell?, hb2.out]
    have q2 : w2.cell? ⟨w.heap.size + 1, 2, none⟩ = some (.slice none 0 0) := by simp [World.cell?, hb2.out]
    have HE := Lib.hid (show ParsePost C (.no c i) w (.returned (.tuple #[.agg #[.slice none 0 0, .slice none 0 0, .slice none 0 0], .int .i64 (loAt C.T i : Int), .int .i64 (c : Int)])) w2 from ⟨rfl, HG.out.1, ((HZ2.out.mono (Nat.le_of_lt hq)).trans HK.out).trans (hca.below C.q (by omega) (by omega) (by omega))⟩)
    clear hca
    simp [Leaves, settle, results, Tryz.results28, go_sem, p3, p4, q0, q1, q2]
    exact HE.out
  | ok u s' =>
    obtain ⟨v, rfl, htr, hB, hkeep⟩ := h1
    obtain ⟨A1, c1, A2, c2, A3, c3, rfl⟩ := htr.form
    have k2 := Lib.hid ((hkeep _ ⟨by omega, by omega⟩).trans HZ4.out)
    have k3 := Lib.hid ((hkeep _ ⟨by omega, by omega⟩).trans HZ5.out)
    have k4 := Lib.hid ((hkeep _ ⟨by omega, by omega⟩).trans HZ6.out)
    have HT := Lib.hid htr
    have HK := Lib.hid hB
    have hs1 := blk_lt k4.out
    have f0 : w1.frozen? ⟨w.heap.size + 1, 0, none⟩ = false := by simp [World.frozen?, k2.out]
    have f1 : w1.frozen? ⟨w.heap.size + 1, 1, none⟩ = false := by simp [World.frozen?, k2.out]
    have f2 : w1.frozen? ⟨w.heap.size + 1, 2, none⟩ = false := by simp [World.frozen?, k2.out]
    have f3 : w1.frozen? ⟨w.heap.size + 1 + 1, 0, none⟩ = false := by simp [World.frozen?, k3.out]
    have f4 : w1.frozen? ⟨w.heap.size + 1 + 1 + 1, 0, none⟩ = false := by simp [World.frozen?, k4.out]
    have q0 : w1.cell? ⟨w.heap.size + 1, 0, none⟩ = some (.slice none 0 0) := by simp [World.cell?, k2.out]
    have q1 : w1.cell? ⟨w.heap.size + 1, 1, none⟩ = some (.slice none 0 0) := by simp [World.cell?, k2.out]
    have q2 : w1.cell? ⟨w.heap.size + 1, 2, none⟩ = some (.slice none 0 0) := by simp [World.cell?, k2.out]
    have q3 : w1.cell? ⟨w.heap.size + 1 + 1, 0, none⟩ = some (.int .i64 0) := by simp [World.cell?, k3.out]
    have q4 : w1.cell? ⟨w.heap.size + 1 + 1 + 1, 0, none⟩ = some (.int .i64 0) := by simp [World.cell?, k4.out]
    clear htr hB hkeep
    go_wp2
    refine leaves_cons (f := 47) (args := #[.pointer (some ⟨w.heap.size, 0, none⟩), .pointer (some ⟨w.heap.size + 1 + 1, 0, none⟩), .pointer (some ⟨w.heap.size + 1 + 1 + 1, 0, none⟩)]) (by simp) (by simp [go_sem]) ?_
    refine (catch_idle _ _ _ _).mono ?_
    rintro e u' w2 ⟨rfl, rfl, hw2⟩
    have HW2 := Lib.hid hw2
    subst hw2
    simp [Leaves, settle, results, Tryz.results28, go_sem, q0, q1, q2, q3, q4]
    have ho := ((((((OutOf.refl (Four w.heap.size) w1).set (b := w.heap.size + 1) 0 (.slice A1 s'.ex.length c1) ⟨by omega, by omega⟩).set (b := w.heap.size + 1) 1 (.slice A2 s'.st.length c2) ⟨by omega, by omega⟩).set (b := w.heap.size + 1) 2 (.slice A3 s'.fn.length c3) ⟨by omega, by omega⟩).set (b := w.heap.size + 1 + 1) 0 (.int .i64 0) ⟨by omega, by omega⟩).set (b := w.heap.size + 1 + 1 + 1) 0 (.int .i64 0) ⟨by omega, by omega⟩)
    exact ⟨_, rfl, HT.out.keep (by rw [ho.size]; exact Nat.le_refl _) (fun k _ hk => ho.block k hk.1) (fun _ hk => hk.2), ((HZ2.out.mono (Nat.le_of_lt hq)).trans HK.out).trans ⟨ho.os, ho.tape, ho.output, by rw [ho.size]; exact Nat.le_refl _, fun k hk => ho.block k (fun e => by have := e.1; omega)⟩⟩

end Go.Proofs.YtdeflloidhbpmaaGreatDoor
