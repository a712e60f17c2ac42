/-
  rewindref04.ints: two slices that read as one list of numbers are the same.
  A program in memory: its things' cells.
  A cell of a block that is known.
-/
import Derived.BigQuiet
import Derived.Test.YtdeflloidhbpmaaGreatDoorK04
import Derived.Test.YtdeflloidhbpmaaGreatDoorK23
namespace Go.Proofs.YtdeflloidhbpmaaGreatDoor
open Go.RowKit

theorem below_dq {w w' : World} {B : Nat} (h : Below B w w') (n : Nat) : Below B w (w'.drewN n) := ⟨h.os, h.tape, h.output, h.size, h.block⟩
theorem RwAt.form {w : World} {L : Nat → Prop} {v : Value} {vs : List Value} (h : RwAt w L v vs) : ∃ A c, v = .slice A vs.length c := by
  obtain ⟨A, c, e, _⟩ := h
  exact ⟨A, _, e⟩
/-- A number of a list in memory. -/
theorem RwAt.int {w : World} {L : Nat → Prop} {A : Option Addr} {n c : Nat} {l : List Nat} (h : RwAt w L (.slice A n c) (intsV l)) (i : Nat) (hi : i < l.length) : ∃ g, A = some ⟨g, 0, none⟩ ∧ g < w.heap.size ∧ w.cell? ⟨g, i, none⟩ = some (.int .i64 (l[i] : Int)) := by
  obtain ⟨A', c', e, h1, h2⟩ := h
  injection e with e1 e2 e3
  subst e1
  obtain ⟨g, rfl, h3⟩ := h2 (by rw [intsV_len]; omega)
  refine ⟨g, rfl, (h1 g rfl).2, h3 i _ ?_⟩
  simp [intsV, hi]
theorem RwAt.str {w : World} {L : Nat → Prop} {A : Option Addr} {n c : Nat} {l : List (List UInt8)} (h : RwAt w L (.slice A n c) (strsV l)) (i : Nat) (hi : i < l.length) : ∃ g, A = some ⟨g, 0, none⟩ ∧ g < w.heap.size ∧ w.cell? ⟨g, i, none⟩ = some (.string (bs l[i])) := by
  obtain ⟨A', c', e, h1, h2⟩ := h
  injection e with e1 e2 e3
  subst e1
  obtain ⟨g, rfl, h3⟩ := h2 (by rw [strsV_len]; omega)
  refine ⟨g, rfl, (h1 g rfl).2, h3 i _ ?_⟩
  simp [strsV, hi]
theorem RwAt.belowL {w w' : World} {L : Nat → Prop} {v : Value} {vs : List Value} (h : RwAt w L v vs) (hB : Below w.heap.size w w') : RwAt w' L v vs := h.keep hB.size fun g _ hL hg => ⟨hL, hB.block g hg⟩

set_option maxRecDepth 100000 in
set_option maxHeartbeats 1000000 in
theorem ints_calls (L M : Nat → Prop) (v1 v2 : Value) (l : List Nat) (hn : l.length ≤ 100000) (w : World) (h1 : RwAt w L v1 (intsV l)) (h2 : RwAt w M v2 (intsV l)) :
    Calls Tryz.prog 29 #[v1, v2] w fun e w' => e = .returned (.bool true) ∧ Below w.heap.size w w' := by
  obtain ⟨A1, c1, rfl⟩ := h1.form
  obtain ⟨A2, c2, rfl⟩ := h2.form
  rw [intsV_len] at h1 h2 ⊢
  have H1 := Lib.hid h1
  have H2 := Lib.hid h2
  clear h1 h2
  go_enter Tryz.func29, Tryz.ntmps29
  go_wp2
  go_loopw [5, 13] (fun _ a wr => ∃ i : Nat, i ≤ l.length ∧ a = .int .i64 i ∧ ∃ nq, wr = w.drewN nq) (fun _ a _ => l.length - (intOf a).toNat)
  case atStart => exact ⟨0, Nat.zero_le _, rfl, 0, rfl⟩
  case round =>
    obtain ⟨i, hi, rfl, nq, rfl⟩ := hrel
    by_cases hlt : i < l.length
    · obtain ⟨g, rfl, hb, d0⟩ := H1.out.int i hlt
      obtain ⟨g2, rfl, hb2, e0⟩ := H2.out.int i hlt
      have hi0 : (0 : Int) ≤ (i : Int) := by omega
      have hi1 : (i : Int) < (l.length : Int) := by omega
      go_wp2_with fail
      go_quiet (fail)
      go_wp2
      go_roundw
      case rel => exact ⟨i + 1, by omega, by go_num, _, rfl⟩
      case measure => simp [intOf]; omega
    · obtain rfl : i = l.length := by omega
      go_wp2
      go_ret
      exact ⟨rfl, below_dq (Below.refl _ _) _⟩

end Go.Proofs.YtdeflloidhbpmaaGreatDoor

namespace Go.Proofs.YtdeflloidhbpmaaGreatDoor
open Go.RowKit

theorem arr_get {w : World} {sz : Nat} {A : Option Addr} {n m c : Nat} {cs : List Value} (h : ArrAt w sz (.slice A m c) n cs) (hn : 0 < n) : ∃ g, A = some ⟨g, 0, none⟩ ∧ g < w.heap.size ∧ ∀ j u, cs[j]? = some u → w.cell? ⟨g, j, none⟩ = some u := by
  obtain ⟨A', c', e, _, h2⟩ := h
  injection e with e1 e2 e3
  subst e1
  obtain ⟨g, rfl, h3, h4⟩ := h2 hn
  exact ⟨g, rfl, h3, h4⟩
/-- The cells of an expression. -/
theorem TrIn.exC {L : Nat → Prop} {w : World} {A1 A2 A3 : Option Addr} {n1 n2 n3 c1 c2 c3 : Nat} {s : Sg} (h : TrIn L w (.agg #[.slice A1 n1 c1, .slice A2 n2 c2, .slice A3 n3 c3]) s) (i : Nat) (hi : i < s.ex.length) :
    ∃ g l, A1 = some ⟨g, 0, none⟩ ∧ g < w.heap.size ∧ RwAt w (fun g => g < w.heap.size ∧ L g) l (intsV s.ex[i].list) ∧ w.cell? ⟨g, i * 9, none⟩ = some (.int .i64 (s.ex[i].kind : Int)) ∧ w.cell? ⟨g, i * 9 + 1, none⟩ = some (.int .i64 (s.ex[i].lo : Int)) ∧ w.cell? ⟨g, i * 9 + 2, none⟩ = some (.int .i64 (s.ex[i].hi : Int)) ∧
      w.cell? ⟨g, i * 9 + 3, none⟩ = some (.int .i64 (s.ex[i].num : Int)) ∧ w.cell? ⟨g, i * 9 + 4, none⟩ = some (.string (bs s.ex[i].name)) ∧ w.cell? ⟨g, i * 9 + 5, none⟩ = some (.string (bs s.ex[i].op)) ∧ w.cell? ⟨g, i * 9 + 6, none⟩ = some (.int .i64 (s.ex[i].a : Int)) ∧
      w.cell? ⟨g, i * 9 + 7, none⟩ = some (.int .i64 (s.ex[i].b : Int)) ∧ w.cell? ⟨g, i * 9 + 8, none⟩ = some l := by
  obtain ⟨ve, vs, vf, ce, cs, cf, e, ⟨ha, _⟩, _, _, hr, _, _⟩ := h
  obtain ⟨rfl, rfl, rfl⟩ : ve = .slice A1 n1 c1 ∧ vs = .slice A2 n2 c2 ∧ vf = .slice A3 n3 c3 := by
    injection e with e; simp at e; obtain ⟨a, b, c⟩ := e; exact ⟨a.symm, b.symm, c.symm⟩
  obtain ⟨g, rfl, hg, hc⟩ := arr_get ha (by omega)
  obtain ⟨hh, ⟨l, rfl, hl⟩, hget⟩ := hr.get ExC.len i hi
  have hk : ∀ j u, j < 9 → (exV s.ex[i] l)[j]? = some u → w.cell? ⟨g, i * 9 + j, none⟩ = some u := fun j u hj hu => hc _ _ ((hget j hj).trans hu)
  exact ⟨g, l, rfl, hg, hl, hk 0 _ (by decide) rfl, hk 1 _ (by decide) rfl, hk 2 _ (by decide) rfl, hk 3 _ (by decide) rfl, hk 4 _ (by decide) rfl, hk 5 _ (by decide) rfl, hk 6 _ (by decide) rfl, hk 7 _ (by decide) rfl, hk 8 _ (by decide) rfl⟩
/-- The cells of a statement. -/
theorem TrIn.smC {L : Nat → Prop} {w : World} {A1 A2 A3 : Option Addr} {n1 n2 n3 c1 c2 c3 : Nat} {s : Sg} (h : TrIn L w (.agg #[.slice A1 n1 c1, .slice A2 n2 c2, .slice A3 n3 c3]) s) (i : Nat) (hi : i < s.st.length) :
    ∃ g l m, A2 = some ⟨g, 0, none⟩ ∧ g < w.heap.size ∧ RwAt w (fun g => g < w.heap.size ∧ L g) l (intsV s.st[i].thn) ∧ RwAt w (fun g => g < w.heap.size ∧ L g) m (intsV s.st[i].els) ∧ w.cell? ⟨g, i * 9, none⟩ = some (.int .i64 (s.st[i].kind : Int)) ∧ w.cell? ⟨g, i * 9 + 1, none⟩ = some (.int .i64 (s.st[i].lo : Int)) ∧ w.cell? ⟨g, i * 9 + 2, none⟩ = some (.int .i64 (s.st[i].hi : Int)) ∧
      w.cell? ⟨g, i * 9 + 3, none⟩ = some (.string (bs s.st[i].name)) ∧ w.cell? ⟨g, i * 9 + 4, none⟩ = some (.int .i64 (s.st[i].num : Int)) ∧ w.cell? ⟨g, i * 9 + 5, none⟩ = some (.int .i64 s.st[i].a) ∧ w.cell? ⟨g, i * 9 + 6, none⟩ = some (.int .i64 (s.st[i].b : Int)) ∧
      w.cell? ⟨g, i * 9 + 7, none⟩ = some l ∧ w.cell? ⟨g, i * 9 + 8, none⟩ = some m := by
  obtain ⟨ve, vs, vf, ce, cs, cf, e, _, ⟨ha, _⟩, _, _, hr, _⟩ := h
  obtain ⟨rfl, rfl, rfl⟩ : ve = .slice A1 n1 c1 ∧ vs = .slice A2 n2 c2 ∧ vf = .slice A3 n3 c3 := by
    injection e with e; simp at e; obtain ⟨a, b, c⟩ := e; exact ⟨a.symm, b.symm, c.symm⟩
  obtain ⟨g, rfl, hg, hc⟩ := arr_get ha (by omega)
  obtain ⟨hh, ⟨l, m, rfl, hl, hm⟩, hget⟩ := hr.get SmC.len i hi
  have hk : ∀ j u, j < 9 → (smV s.st[i] l m)[j]? = some u → w.cell? ⟨g, i * 9 + j, none⟩ = some u := fun j u hj hu => hc _ _ ((hget j hj).trans hu)
  exact ⟨g, l, m, rfl, hg, hl, hm, hk 0 _ (by decide) rfl, hk 1 _ (by decide) rfl, hk 2 _ (by decide) rfl, hk 3 _ (by decide) rfl, hk 4 _ (by decide) rfl, hk 5 _ (by decide) rfl, hk 6 _ (by decide) rfl, hk 7 _ (by decide) rfl, hk 8 _ (by decide) rfl⟩
/-- The cells of a function. -/
theorem TrIn.fuC {L : Nat → Prop} {w : World} {A1 A2 A3 : Option Addr} {n1 n2 n3 c1 c2 c3 : Nat} {s : Sg} (h : TrIn L w (.agg #[.slice A1 n1 c1, .slice A2 n2 c2, .slice A3 n3 c3]) s) (i : Nat) (hi : i < s.fn.length) :
    ∃ g l m, A3 = some ⟨g, 0, none⟩ ∧ g < w.heap.size ∧ RwAt w (fun g => g < w.heap.size ∧ L g) l (strsV s.fn[i].params) ∧ RwAt w (fun g => g < w.heap.size ∧ L g) m (intsV s.fn[i].body) ∧ w.cell? ⟨g, i * 6, none⟩ = some (.string (bs s.fn[i].name)) ∧ w.cell? ⟨g, i * 6 + 1, none⟩ = some (.int .i64 (s.fn[i].lo : Int)) ∧ w.cell? ⟨g, i * 6 + 2, none⟩ = some (.int .i64 (s.fn[i].hi : Int)) ∧
      w.cell? ⟨g, i * 6 + 3, none⟩ = some l ∧ w.cell? ⟨g, i * 6 + 4, none⟩ = some (.int .i64 (s.fn[i].ty : Int)) ∧ w.cell? ⟨g, i * 6 + 5, none⟩ = some m := by
  obtain ⟨ve, vs, vf, ce, cs, cf, e, _, _, ⟨ha, _⟩, _, _, hr⟩ := h
  obtain ⟨rfl, rfl, rfl⟩ : ve = .slice A1 n1 c1 ∧ vs = .slice A2 n2 c2 ∧ vf = .slice A3 n3 c3 := by
    injection e with e; simp at e; obtain ⟨a, b, c⟩ := e; exact ⟨a.symm, b.symm, c.symm⟩
  obtain ⟨g, rfl, hg, hc⟩ := arr_get ha (by omega)
  obtain ⟨hh, ⟨l, m, rfl, hl, hm⟩, hget⟩ := hr.get FuC.len i hi
  have hk : ∀ j u, j < 6 → (fuV s.fn[i] l m)[j]? = some u → w.cell? ⟨g, i * 6 + j, none⟩ = some u := fun j u hj hu => hc _ _ ((hget j hj).trans hu)
  exact ⟨g, l, m, rfl, hg, hl, hm, hk 0 _ (by decide) rfl, hk 1 _ (by decide) rfl, hk 2 _ (by decide) rfl, hk 3 _ (by decide) rfl, hk 4 _ (by decide) rfl, hk 5 _ (by decide) rfl⟩
end Go.Proofs.YtdeflloidhbpmaaGreatDoor

namespace Go.Proofs.YtdeflloidhbpmaaGreatDoor
theorem cellK {w : World} {g : Nat} {a : Array Value} {t : TypeId} {fr : Nat × Nat} (h : w.heap[g]? = some (.cells a t fr)) (o : Nat) : w.cell? ⟨g, o, none⟩ = a[o]? := by simp [World.cell?, h]
end Go.Proofs.YtdeflloidhbpmaaGreatDoor
