/-
  The statement about tapes, walked: its head.
-/
import Derived.Test.YtoailhkaenofpaaDoorWdV
import Derived.Deep.RegionLaw
import Derived.Deep.AppendLies
import Derived.Deep.CutRange
import Derived.Deep.CutBlock
import Derived.Deep.RegionHeld3
import Derived.IntWalk
namespace Go.Proofs.YtoailhkaenofpaaDoor
open Go.RowKit

/-- What the copy of a world leaves. -/
def CpyP (m : WoM) (N : Nat) (w : World) (v : Value) (w' : World) : Prop :=
  Below N w w' ∧ ∃ g A c, v = .pointer (some ⟨g, 0, none⟩) ∧ N ≤ g ∧ w'.heap[g]? = some (.cells #[.int .i64 m.stp, .slice A m.ins.length c] 24 (0, 0)) ∧ m.ins.length ≤ c ∧ c ≤ maxLen ∧ (A = none → c = 0) ∧
    (0 < m.ins.length → ∃ b, A = some ⟨b, 0, none⟩ ∧ N ≤ b ∧ b ≠ g ∧ ∀ i (h : i < m.ins.length), w'.cell? ⟨b, i, none⟩ = some (.int .i64 m.ins[i]) ∧ w'.frozen? ⟨b, i, none⟩ = false)

theorem cpy_of {m : WoM} {N t5 g4 cap4 : Nat} {w wf : World} (hB : Below N w wf) (hbox : wf.heap[t5]? = some (.cells #[.int .i64 m.stp, .slice (some ⟨g4, 0, none⟩) m.ins.length cap4] 24 (0, 0))) (hN : N ≤ t5)
    (hrow : wf.ownsRow N 3 1 (.slice (some ⟨g4, 0, none⟩) m.ins.length cap4) m.ins.length (intsL m.ins)) : CpyP m N w (.pointer (some ⟨t5, 0, none⟩)) wf := by
  have hgt : g4 ≠ t5 := fun e => by
    obtain ⟨cur, hc⟩ := own_cells hrow g4 rfl
    rw [e, hbox] at hc
    injection hc with hc
    injection hc with _ hc _
    exact absurd hc (by decide)
  obtain ⟨cur, hcur⟩ := own_cells hrow g4 rfl
  rcases hrow.2 with ⟨h0, _⟩ | ⟨g, cap, cur', hv, hb, hg, h1, h2, h3, h4⟩
  · cases h0
  · injection hv with e1 _ e3
    injection e1 with e1
    injection e1 with e1 _ _
    subst e1 e3
    refine ⟨hB, t5, _, _, rfl, hN, hbox, h1, h2, fun e => (by cases e), fun hn => ⟨g4, rfl, hb, hgt, fun i hi => ⟨?_, frzC hg _⟩⟩⟩
    obtain ⟨g', cap', hv', _, _, _, _, hcl⟩ := own_cellC hrow hn
    injection hv' with e1 _ _
    injection e1 with e1
    injection e1 with e1 _ _
    subst e1
    rw [hcl i hi]
    simp [intsL, hi]
theorem cpy_new {m : WoM} {w w4 : World} {g4 cap4 : Nat} {E : Obj} (hown : w4.ownsRow w.heap.size 3 1 (.slice (some ⟨g4, 0, none⟩) m.ins.length cap4) m.ins.length (intsL m.ins)) (hg : (w.alloc E).drew.grownBy w4 (some w.heap.size)) :
    CpyP m w.heap.size w (.pointer (some ⟨w4.heap.size, 0, none⟩)) (w4.alloc (.cells #[.int .i64 m.stp, .slice (some ⟨g4, 0, none⟩) m.ins.length cap4] 24)) := by
  have hz : w.heap.size + 1 ≤ w4.heap.size := by have := hg.size; simpa [World.drew] using this
  have h4 : Below w.heap.size w w4 := ⟨hg.os, hg.tape.trans rfl, hg.output, by omega, fun k hk => (hg.block k (by show k < (w.heap.push E).size; simp; omega) (by simp; omega)).trans (Below.heap_alloc w E k hk)⟩
  exact cpy_of (h4.alloc (by omega) _) (newAt _ _ _ rfl) (by omega) (hown.alloc _)
set_option maxRecDepth 100000 in
set_option maxHeartbeats 4000000 in
theorem cpy_put {m : WoM} {N t5 g4 cap4 : Nat} {a b : Value} {w w4 : World} (h4 : Below N w w4) (hN : N ≤ t5) (hbox : w4.heap[t5]? = some (.cells #[a, b] 24 (0, 0)))
    (hown : w4.ownsRow N 3 1 (.slice (some ⟨g4, 0, none⟩) m.ins.length cap4) m.ins.length (intsL m.ins)) :
    CpyP m N w (.pointer (some ⟨t5, 0, none⟩)) ((w4.setCell ⟨t5, 0, none⟩ (.int .i64 m.stp)).setCell ⟨t5, 1, none⟩ (.slice (some ⟨g4, 0, none⟩) m.ins.length cap4)) := by
  have hgt : g4 ≠ t5 := fun e => by
    obtain ⟨cur, hc⟩ := own_cells hown g4 rfl
    rw [e, hbox] at hc
    injection hc with hc
    injection hc with _ hc _
    exact absurd hc (by decide)
  exact cpy_of ((h4.setCell (p := ⟨t5, 0, none⟩) hN _).setCell (p := ⟨t5, 1, none⟩) hN _) (set2 hbox _ _) hN (own_keepC hown fun g e => by
    obtain rfl : g4 = g := by simpa [Value.ownBlock] using e
    exact (setNe _ _ _ _ _ hgt).trans (setNe _ _ _ _ _ hgt))
theorem grown_low {w W w4 : World} {N r : Nat} (h : Below N w W) (hg : W.grownBy w4 (some r)) (hr : N ≤ r) (hN : N ≤ w.heap.size) : Below N w w4 :=
  ⟨hg.os.trans h.os, hg.tape.trans h.tape, hg.output.trans h.output, Nat.le_trans h.size hg.size, fun k hk => (hg.block k (by have := h.size; omega) (by simp; omega)).trans (h.block k hk)⟩
/-- What the loop over the copy's own row leaves as it was. -/
structure LoP (A1 : Option Addr) (n : Nat) (w w' : World) : Prop where
  os : w'.os = w.os
  tape : w'.tape = w.tape
  output : w'.output = w.output
  size : w'.heap.size = w.heap.size
  block : ∀ k, (0 < n → ∀ b, A1 = some ⟨b, 0, none⟩ → k ≠ b) → w'.heap[k]? = w.heap[k]?
  ints : ∀ b, A1 = some ⟨b, 0, none⟩ → ∀ i, i < n → (∃ v, w'.cell? ⟨b, i, none⟩ = some (.int .i64 v)) ∧ w'.frozen? ⟨b, i, none⟩ = false
theorem LoP.put {A1 : Option Addr} {n b k : Nat} {w w' : World} (h : LoP A1 n w w') (e : A1 = some ⟨b, 0, none⟩) (hk : k < n) (x : Int) : LoP A1 n w (w'.setCell ⟨b, k, none⟩ (.int .i64 x)) :=
  ⟨h.os, h.tape, h.output, by simpa [World.setCell] using h.size, fun q hq => (setNe _ _ _ _ _ (hq (by omega) b e)).trans (h.block q hq), fun b' e' i hi => by
    obtain rfl : b = b' := by rw [e] at e'; injection e' with e'; injection e'
    obtain ⟨⟨v, hv⟩, hf⟩ := h.ints b e i hi
    refine ⟨?_, by rw [World.frozen?_setCell]; exact hf⟩
    by_cases hik : i = k
    · subst hik
      exact ⟨x, World.cell?_setCell_same' _ _ _ (by rw [hv]; rfl)⟩
    · refine ⟨v, ?_⟩
      rw [World.cell?_setCell_other _ _ _ _ (fun e => hik (by injection e with _ e2 _; exact e2.symm))]
      exact hv⟩
theorem TpAt.same {w w' : World} {X c at_ M : Nat} {A : Option Addr} {s : Int} {l : List Int} (h : TpAt w X A c s l at_) (hk : ∀ k, M ≤ k → w'.heap[k]? = w.heap[k]?) (hs : w.heap.size ≤ w'.heap.size) (hX : M ≤ X) (hA : 0 < l.length → ∃ b off, A = some ⟨b, off, none⟩ ∧ M ≤ b) : TpAt w' X A c s l at_ :=
  ⟨(hk X hX).trans h.box, fun hn => by
    obtain ⟨b, off, e, h1, h2, h3⟩ := h.row hn
    obtain ⟨b', off', e', hb⟩ := hA hn
    obtain ⟨rfl, rfl⟩ : b = b' ∧ off = off' := by rw [e] at e'; injection e' with e'; injection e' with e1 e2; exact ⟨e1, e2⟩
    exact ⟨b, off, e, h1, Nat.lt_of_lt_of_le h2 hs, fun i hi => (World.cell?_of_block (a := ⟨b, off + i, none⟩) (hk b hb)).trans (h3 i hi)⟩⟩
/-- Between two acts. -/
structure RP (m : WoM) (A : Option Addr) (c N X : Nat) (A' : Option Addr) (c' Na at_ : Nat) (w W : World) : Prop where
  tp : TpAt W X A' c' m.stp m.ins at_
  box : Boxed W Na 3 (.int .i64 (at_ : Int))
  low : Below N w W
  wb : W.heap[N]? = some (.cells #[.int .i64 m.stp, .slice A m.ins.length c] 24 (0, 0))
  le : at_ ≤ m.ins.length
  ne : X ≠ Na
  row : ∀ b off, A' = some ⟨b, off, none⟩ → 0 < m.ins.length → b ≠ Na ∧ N < b
  hX : N < X
  hN : N < Na
theorem RP.chg {m : WoM} {A A' : Option Addr} {c N X c' Na at_ at2 : Nat} {w W W' : World} (h : RP m A c N X A' c' Na at_ w W) (hc : Chg X W W') (ht : TpAt W' X A' c' m.stp m.ins at2) (hl : at2 ≤ m.ins.length) :
    TpAt W' X A' c' m.stp m.ins at2 ∧ Boxed W' Na 3 (.int .i64 (at_ : Int)) ∧ Below N w W' ∧ W'.heap[N]? = some (.cells #[.int .i64 m.stp, .slice A m.ins.length c] 24 (0, 0)) ∧ at2 ≤ m.ins.length :=
  ⟨ht, (hc.block _ (Ne.symm h.ne)).trans h.box, hc.below h.low (Nat.le_of_lt h.hX), (hc.block _ (by have := h.hX; omega)).trans h.wb, hl⟩
theorem RP.mk' {m : WoM} {A A' : Option Addr} {c N X c' Na at_ at2 : Nat} {w W W' : World} (h : RP m A c N X A' c' Na at_ w W) (k : TpAt W' X A' c' m.stp m.ins at2 ∧ Boxed W' Na 3 (.int .i64 (at2 : Int)) ∧ Below N w W' ∧ W'.heap[N]? = some (.cells #[.int .i64 m.stp, .slice A m.ins.length c] 24 (0, 0)) ∧ at2 ≤ m.ins.length) : RP m A c N X A' c' Na at2 w W' :=
  ⟨k.1, k.2.1, k.2.2.1, k.2.2.2.1, k.2.2.2.2, h.ne, h.row, h.hX, h.hN⟩
theorem RP.setAt {m : WoM} {A A' : Option Addr} {c N X c' Na at_ at2 : Nat} {w W : World} (h : RP m A c N X A' c' Na at_ w W) {W' : World} (k : TpAt W' X A' c' m.stp m.ins at2 ∧ Boxed W' Na 3 (.int .i64 (at_ : Int)) ∧ Below N w W' ∧ W'.heap[N]? = some (.cells #[.int .i64 m.stp, .slice A m.ins.length c] 24 (0, 0)) ∧ at2 ≤ m.ins.length) :
    RP m A c N X A' c' Na at2 w (W'.setCell ⟨Na, 0, none⟩ (.int .i64 (at2 : Int))) := by
  obtain ⟨k1, k2, k3, k4, k5⟩ := k
  refine ⟨⟨(setNe _ _ _ _ _ h.ne).trans k1.box, fun hn => ?_⟩, k2.set _, k3.setCell (p := ⟨Na, 0, none⟩) (Nat.le_of_lt h.hN) _, (setNe _ _ _ _ _ (by have := h.hN; omega)).trans k4, k5, h.ne, h.row, h.hX, h.hN⟩
  obtain ⟨b, off, e, h1, h2, h3⟩ := k1.row hn
  have hb := (h.row b off e hn).1
  exact ⟨b, off, e, h1, by simpa [World.setCell] using h2, fun i hi => (cellSetNe _ _ _ _ _ _ hb).trans (h3 i hi)⟩
theorem RP.below {m : WoM} {A A' : Option Addr} {c N X c' Na at_ : Nat} {w W W' : World} (h : RP m A c N X A' c' Na at_ w W) (hb : Below W.heap.size W W') : RP m A c N X A' c' Na at_ w W' :=
  ⟨h.tp.keep hb, (hb.block _ h.box.lt).trans h.box, h.low.trans (hb.mono (by have := h.box.lt; have := h.hN; omega)), (hb.block _ (blkLt h.wb)).trans h.wb, h.le, h.ne, h.row, h.hX, h.hN⟩
theorem RP.ch2 {m : WoM} {A A' : Option Addr} {c N X c' Na at_ Bo Bn : Nat} {w W W' : World} (h : RP m A c N X A' c' Na at_ w W) (hb : Ch2 Bo Bn W W') (h1 : X ≠ Bo ∧ X ≠ Bn) (h2 : Na ≠ Bo ∧ Na ≠ Bn) (h3 : N < Bo ∧ N < Bn) (h4 : ∀ b off, A' = some ⟨b, off, none⟩ → 0 < m.ins.length → b ≠ Bo ∧ b ≠ Bn) : RP m A c N X A' c' Na at_ w W' := by
  refine ⟨⟨(hb.block _ h1.1 h1.2).trans h.tp.box, fun hn => ?_⟩, (hb.block _ h2.1 h2.2).trans h.box, ⟨hb.os.trans h.low.os, hb.tape.trans h.low.tape, hb.output.trans h.low.output, by rw [hb.size]; exact h.low.size, fun k hk => (hb.block k (by omega) (by omega)).trans (h.low.block k hk)⟩, (hb.block _ (by omega) (by omega)).trans h.wb, h.le, h.ne, h.row, h.hX, h.hN⟩
  obtain ⟨b, off, e, q1, q2, q3⟩ := h.tp.row hn
  obtain ⟨p1, p2⟩ := h4 b off e hn
  exact ⟨b, off, e, q1, by rw [hb.size]; exact q2, fun i hi => hb.cell (q3 i hi) p1 p2⟩
theorem RP.drewN {m : WoM} {A A' : Option Addr} {c N X c' Na at_ : Nat} {w W : World} (h : RP m A c N X A' c' Na at_ w W) (n : Nat) : RP m A c N X A' c' Na at_ w (W.drewN n) :=
  ⟨h.tp.put (chg_drew n) h.tp.box, h.box, below_drewC h.low n, h.wb, h.le, h.ne, h.row, h.hX, h.hN⟩
set_option maxRecDepth 100000 in
set_option maxHeartbeats 4000000 in
theorem worldTapes_law (m : WoM) (A : Option Addr) (c : Nat) (B : Option Addr) (d : Nat) (acts : List Int) (w : World) (h : WoAt w w.heap.size A c m) (hB : IsAt w w.heap.size B acts) (_hd : acts.length ≤ d) (_hdm : d ≤ maxLen) (hfa : ∀ n ∈ acts, i64 n) (hX : TX w) :
    Calls Tryd.prog 5 #[woV A c m, .slice B acts.length d] w fun e w' => e = .returned (.bool true) ∧ Below w.heap.size w w' := by
  obtain ⟨i0, hi0, hz0, hz1, hz2⟩ := info_parts Tryd.infoInt
  have HW := Lib.hid h
  have hcap := h.cap
  have hfew := h.few
  unfold maxLen at hfew
  have HAW := Lib.hid (fun W (hb : Below w.heap.size w W) => awake_calls W (hX.below hb (Nat.le_refl _)))
  have HGC := Lib.hid (fun W => good_calls m A c W)
  have HB0 := Lib.hid ((Below.refl w.heap.size w).alloc (Nat.le_refl _) (.cells #[.int .i64 m.stp, .slice A m.ins.length c] 24))
  have HX0 := Lib.hid (heapOne w #[.int .i64 m.stp, .slice A m.ins.length c] 24)
  have HBA := Lib.hid hB
  have HFA := Lib.hid hfa
  unfold woV at HGC ⊢
  clear h hX hB hfa
  go_enter Tryd.func5, Tryd.ntmps5
  go_wp2_with fail
  generalize w.alloc (.cells #[.int .i64 m.stp, .slice A m.ins.length c] 24) = W0 at *
  refine (HAW.out _ HB0.out).mono ?_
  rintro e w1 ⟨rfl, hB1⟩
  have HB1 := Lib.hid (HB0.out.trans (hB1.mono HB0.out.size))
  have HX1 := Lib.hid ((hB1.block _ (blkLt HX0.out)).trans HX0.out)
  clear hB1
  have x0 : w1.cell? ⟨w.heap.size, 0, none⟩ = some (.int .i64 m.stp) := cellC HX1.out 0
  have x1 : w1.cell? ⟨w.heap.size, 1, none⟩ = some (.slice A m.ins.length c) := cellC HX1.out 1
  by_cases h1 : m.ins.length ≤ 60
  · have d1 : decide ((60 : Int) < (m.ins.length : Int)) = false := decide_eq_false (by omega)
    have d2 : decide (60 < m.ins.length) = false := decide_eq_false (by omega)
    by_cases h2 : acts.length ≤ 60
    · have d3 : decide ((60 : Int) < (acts.length : Int)) = false := decide_eq_false (by omega)
      have d4 : decide (60 < acts.length) = false := decide_eq_false (by omega)
      go_upto_region 3 with (fail)
      go_cut [5] from 31 to 37 (fun v wx => CpyP m w1.heap.size w1 v wx)
      · rcases hm : m with ⟨ms, mi⟩
        by_cases hne : mi = []
        · subst hm
          subst hne
          dsimp only [List.length_nil] at *
          rcases A with _ | ad
          · obtain rfl : c = 0 := HW.out.nil rfl
            have y0 : w1.drew.cell? ⟨w.heap.size, 0, none⟩ = some (.int .i64 ms) := x0
            have y1 : w1.drew.cell? ⟨w.heap.size, 1, none⟩ = some (.slice none 0 0) := x1
            have hlt1 : w.heap.size < w1.heap.size := blkLt HX1.out
            go_region_held3 (fun w' => w'.cell? ⟨w.heap.size, 0, none⟩ = some (.int .i64 ms) ∧ w'.cell? ⟨w.heap.size, 1, none⟩ = some (.slice none 0 0))
              (first | with_reducible exact ⟨y0, y1⟩ | exact ⟨newC y0 _, newC y1 _⟩ | exact ⟨newC (newC y0 _) _, newC (newC y1 _) _⟩ | simp [*, World.cell?_alloc_some, World.cell?_setCell_far])
              (fail)
            all_goals go_wp2
            all_goals go_meet
            all_goals (first
              | exact cpy_of (m := ⟨ms, []⟩) (((Below.refl _ w1).alloc (Nat.le_refl _) _).alloc (by simp) _).drew (newAt _ _ _ (by simp)) (by omega) (own_block (cur := #[]) ((Below.heap_alloc _ _ _ (by simp)).trans (newAt _ _ _ rfl)) (by omega) rfl (by simp) (by decide))
              | exact cpy_of (m := ⟨ms, []⟩) (((Below.refl _ w1).alloc (Nat.le_refl _) _).alloc (by simp) _).drew ((Below.heap_alloc _ _ _ (by simp)).trans (newAt _ _ _ rfl)) (Nat.le_refl _) (own_block (cur := #[]) (newAt _ _ _ (by simp)) (by omega) rfl (by simp) (by decide)))
          · have y0 : w1.drew.cell? ⟨w.heap.size, 0, none⟩ = some (.int .i64 ms) := x0
            have y1 : w1.drew.cell? ⟨w.heap.size, 1, none⟩ = some (.slice (some ad) 0 c) := x1
            have hlt1 : w.heap.size < w1.heap.size := blkLt HX1.out
            go_region_held3 (fun w' => w'.cell? ⟨w.heap.size, 0, none⟩ = some (.int .i64 ms) ∧ w'.cell? ⟨w.heap.size, 1, none⟩ = some (.slice (some ad) 0 c))
              (first | with_reducible exact ⟨y0, y1⟩ | exact ⟨newC y0 _, newC y1 _⟩ | exact ⟨newC (newC y0 _) _, newC (newC y1 _) _⟩ | simp [*, World.cell?_alloc_some, World.cell?_setCell_far])
              (fail)
            all_goals go_wp2
            all_goals go_meet
            all_goals (first
              | exact cpy_of (m := ⟨ms, []⟩) (((Below.refl _ w1).alloc (Nat.le_refl _) _).alloc (by simp) _).drew (newAt _ _ _ (by simp)) (by omega) (own_block (cur := #[]) ((Below.heap_alloc _ _ _ (by simp)).trans (newAt _ _ _ rfl)) (by omega) rfl (by simp) (by decide))
              | exact cpy_of (m := ⟨ms, []⟩) (((Below.refl _ w1).alloc (Nat.le_refl _) _).alloc (by simp) _).drew ((Below.heap_alloc _ _ _ (by simp)).trans (newAt _ _ _ rfl)) (Nat.le_refl _) (own_block (cur := #[]) (newAt _ _ _ (by simp)) (by omega) rfl (by simp) (by decide)))
        · subst hm
          have hn : 0 < mi.length := List.length_pos_iff.2 hne
          obtain ⟨b, off, rfl, hbb, hcl⟩ := HW.out.row hn
          dsimp only at *
          have hlt1 : w.heap.size < w1.heap.size := blkLt HX1.out
          have hcl1 : ∀ i (h : i < mi.length), w1.cell? ⟨b, off + i, none⟩ = some (.int .i64 mi[i]) := fun i hi => keepC HB1.out (hcl i hi) hbb
          have hnews : ∀ W : World, (∀ o, W.cell? ⟨b, o, none⟩ = w1.cell? ⟨b, o, none⟩) → ∀ j u, (intsL mi)[j]? = some u → W.cell? ((⟨b, off, none⟩ : Addr).add j) = some u := fun W hW j u hj => by
            have hjl : j < mi.length := by
              rcases Nat.lt_or_ge j mi.length with h | h
              · exact h
              · rw [List.getElem?_eq_none (by simpa [intsL] using h)] at hj; cases hj
            rw [show (⟨b, off, none⟩ : Addr).add j = ⟨b, off + j, none⟩ by simp [Addr.add], hW, hcl1 j hjl]
            simp [intsL, hjl] at hj
            rw [hj]
          have hb1 : b < w1.heap.size := ltC (hcl1 0 hn)
          have e1 : ∀ o : Obj, (w1.alloc o).heap.size = w1.heap.size + 1 := fun o => by simp
          have HNA := Lib.hid (hnews ((w1.alloc (.cells #[] 3)).drew) (fun o => World.cell?_of_block (a := ⟨b, o, none⟩) (Below.heap_alloc w1 _ b hb1)))
          have HNB := Lib.hid (hnews (((w1.alloc (.cells #[] 3)).alloc (.cells #[.int .i64 0, .slice none 0 0] 24)).drew) (fun o => World.cell?_of_block (a := ⟨b, o, none⟩) ((Below.heap_alloc _ _ b (by simp; omega)).trans (Below.heap_alloc w1 _ b hb1))))
          have HNC := Lib.hid (hnews (((w1.alloc (.cells #[.int .i64 0, .slice none 0 0] 24)).alloc (.cells #[] 3)).drew) (fun o => World.cell?_of_block (a := ⟨b, o, none⟩) ((Below.heap_alloc _ _ b (by simp; omega)).trans (Below.heap_alloc w1 _ b hb1))))
          have HQA : Hid (((w1.alloc (.cells #[] 3)).drew).heap[w.heap.size]? = _) := Lib.hid ((Below.heap_alloc w1 _ _ hlt1).trans HX1.out)
          have HQB : Hid ((((w1.alloc (.cells #[] 3)).alloc (.cells #[.int .i64 0, .slice none 0 0] 24)).drew).heap[w.heap.size]? = _) := Lib.hid ((Below.heap_alloc _ _ _ (by simp; omega)).trans ((Below.heap_alloc w1 _ _ hlt1).trans HX1.out))
          have HQC : Hid ((((w1.alloc (.cells #[.int .i64 0, .slice none 0 0] 24)).alloc (.cells #[] 3)).drew).heap[w.heap.size]? = _) := Lib.hid ((Below.heap_alloc _ _ _ (by simp; omega)).trans ((Below.heap_alloc w1 _ _ hlt1).trans HX1.out))
          have HTB : Hid ((((w1.alloc (.cells #[] 3)).alloc (.cells #[.int .i64 0, .slice none 0 0] 24)).drew).heap[w1.heap.size + 1]? = some (.cells #[.int .i64 0, .slice none 0 0] 24)) := Lib.hid (newAt _ _ _ (by simp))
          have HTC : Hid ((((w1.alloc (.cells #[.int .i64 0, .slice none 0 0] 24)).alloc (.cells #[] 3)).drew).heap[w1.heap.size]? = some (.cells #[.int .i64 0, .slice none 0 0] 24)) := Lib.hid ((Below.heap_alloc _ _ _ (by simp)).trans (newAt _ _ _ rfl))
          have HLA : Hid (Below w1.heap.size w1 ((w1.alloc (.cells #[] 3)).drew)) := Lib.hid ((Below.refl _ w1).alloc (Nat.le_refl _) _).drew
          have HLB : Hid (Below w1.heap.size w1 (((w1.alloc (.cells #[] 3)).alloc (.cells #[.int .i64 0, .slice none 0 0] 24)).drew)) := Lib.hid (((Below.refl _ w1).alloc (Nat.le_refl _) _).alloc (by simp) _).drew
          have HLC : Hid (Below w1.heap.size w1 (((w1.alloc (.cells #[.int .i64 0, .slice none 0 0] 24)).alloc (.cells #[] 3)).drew)) := Lib.hid (((Below.refl _ w1).alloc (Nat.le_refl _) _).alloc (by simp) _).drew
          have HOA : Hid (((w1.alloc (.cells #[] 3)).drew).ownsRow w1.heap.size 3 1 (.slice (some ⟨w1.heap.size, 0, none⟩) 0 0) 0 []) := Lib.hid (own_block (W := (w1.alloc (.cells #[] 3)).drew) (cur := #[]) (newAt w1 _ _ rfl) (Nat.le_refl _) rfl (by simp) (by decide))
          have HOB : Hid ((((w1.alloc (.cells #[] 3)).alloc (.cells #[.int .i64 0, .slice none 0 0] 24)).drew).ownsRow w1.heap.size 3 1 (.slice (some ⟨w1.heap.size, 0, none⟩) 0 0) 0 []) := Lib.hid (own_block (W := ((w1.alloc (.cells #[] 3)).alloc (.cells #[.int .i64 0, .slice none 0 0] 24)).drew) (cur := #[]) ((Below.heap_alloc _ _ _ (by simp)).trans (newAt w1 _ _ rfl)) (Nat.le_refl _) rfl (by simp) (by decide))
          have HOC : Hid ((((w1.alloc (.cells #[.int .i64 0, .slice none 0 0] 24)).alloc (.cells #[] 3)).drew).ownsRow w1.heap.size 3 1 (.slice (some ⟨w1.heap.size + 1, 0, none⟩) 0 0) 0 []) := Lib.hid (own_block (W := ((w1.alloc (.cells #[.int .i64 0, .slice none 0 0] 24)).alloc (.cells #[] 3)).drew) (cur := #[]) (newAt _ _ _ (by simp)) (by omega) rfl (by simp) (by decide))
          have HON : Hid (∀ u ∈ intsL mi, u.oneCell' = true) := Lib.hid (fun u hu => by
            obtain ⟨x, _, rfl⟩ := List.mem_map.1 hu; rfl)
          have HLN : Hid ((intsL mi).length = mi.length * 1) := Lib.hid (by simp [intsL])
          have y0 : w1.drew.cell? ⟨w.heap.size, 0, none⟩ = some (.int .i64 ms) := x0
          have y1 : w1.drew.cell? ⟨w.heap.size, 1, none⟩ = some (.slice (some ⟨b, off, none⟩) mi.length c) := x1
          have hneB : w.heap.size ≠ w1.heap.size + 1 := by omega
          have hneC : w.heap.size ≠ w1.heap.size := by omega
          clear hcl hcl1 hnews e1
          go_region_held3 (fun w' => w'.cell? ⟨w.heap.size, 0, none⟩ = some (.int .i64 ms) ∧ w'.cell? ⟨w.heap.size, 1, none⟩ = some (.slice (some ⟨b, off, none⟩) mi.length c))
            (first | with_reducible exact ⟨y0, y1⟩ | exact ⟨newC y0 _, newC y1 _⟩ | exact ⟨newC (newC y0 _) _, newC (newC y1 _) _⟩ | exact ⟨(cellSetNe _ _ _ _ _ _ hneB).trans ((cellSetNe _ _ _ _ _ _ hneB).trans y0), (cellSetNe _ _ _ _ _ _ hneB).trans ((cellSetNe _ _ _ _ _ _ hneB).trans y1)⟩ | exact ⟨(cellSetNe _ _ _ _ _ _ hneC).trans ((cellSetNe _ _ _ _ _ _ hneC).trans y0), (cellSetNe _ _ _ _ _ _ hneC).trans ((cellSetNe _ _ _ _ _ _ hneC).trans y1)⟩ | simp [*, World.cell?_alloc_some, World.cell?_setCell_far])
            (first | (refine step_append_lies _ rfl (.tmp 33) (.tmp 35) 22 rfl w1.heap.size 3 i0 (.int .i64 0) 1 8 Tryd.underlying22 hi0 hz0 hz1 hz2 rfl (by decide) (.slice (some ⟨w1.heap.size, 0, none⟩) 0 0) 0 [] (by simp [Act.eval]) HOA.out ⟨b, off, none⟩ mi.length c (intsL mi) (by simp [Act.eval]) HLN.out HNA.out HON.out (by omega) (by unfold maxLen; omega) (by omega) (Nat.le_trans (by omega) (HLA.out).size) _ rfl ?_; intro g4 cap4 w4 hown hgrow hat hg4; have HO4 : Hid (w4.ownsRow w1.heap.size 3 1 (.slice (some ⟨g4, 0, none⟩) mi.length cap4) mi.length (intsL mi)) := Lib.hid (by simpa using hown); have HG4 := Lib.hid (grown_low HLA.out hgrow (Nat.le_refl _) (Nat.le_refl _)); have HGG := Lib.hid hgrow; have k0 := (hgrow.block _ (blkLt HQA.out) (by simp [Value.ownBlock]; omega)).trans HQA.out; have y0 : w4.cell? ⟨w.heap.size, 0, none⟩ = some (.int .i64 ms) := cellC k0 0; have y1 : w4.cell? ⟨w.heap.size, 1, none⟩ = some (.slice (some ⟨b, off, none⟩) mi.length c) := cellC k0 1; clear hown hgrow hat k0) | (refine step_append_lies _ rfl (.tmp 33) (.tmp 35) 22 rfl w1.heap.size 3 i0 (.int .i64 0) 1 8 Tryd.underlying22 hi0 hz0 hz1 hz2 rfl (by decide) (.slice (some ⟨w1.heap.size, 0, none⟩) 0 0) 0 [] (by simp [Act.eval]) HOB.out ⟨b, off, none⟩ mi.length c (intsL mi) (by simp [Act.eval]) HLN.out HNB.out HON.out (by omega) (by unfold maxLen; omega) (by omega) (Nat.le_trans (by omega) (HLB.out).size) _ rfl ?_; intro g4 cap4 w4 hown hgrow hat hg4; have HO4 : Hid (w4.ownsRow w1.heap.size 3 1 (.slice (some ⟨g4, 0, none⟩) mi.length cap4) mi.length (intsL mi)) := Lib.hid (by simpa using hown); have HG4 := Lib.hid (grown_low HLB.out hgrow (Nat.le_refl _) (Nat.le_refl _)); have HGG := Lib.hid hgrow; have k0 := (hgrow.block _ (blkLt HQB.out) (by simp [Value.ownBlock]; omega)).trans HQB.out; have y0 : w4.cell? ⟨w.heap.size, 0, none⟩ = some (.int .i64 ms) := cellC k0 0; have y1 : w4.cell? ⟨w.heap.size, 1, none⟩ = some (.slice (some ⟨b, off, none⟩) mi.length c) := cellC k0 1; have kt := (hgrow.block _ (blkLt HTB.out) (by simp [Value.ownBlock])).trans HTB.out; have HKT := Lib.hid kt; have t0 : w4.cell? ⟨w1.heap.size + 1, 0, none⟩ = some (.int .i64 0) := cellC kt 0; have t1 : w4.cell? ⟨w1.heap.size + 1, 1, none⟩ = some (.slice none 0 0) := cellC kt 1; have tf0 := frzC kt 0; have tf1 := frzC kt 1; clear kt; clear hown hgrow hat k0) | (refine step_append_lies _ rfl (.tmp 33) (.tmp 35) 22 rfl w1.heap.size 3 i0 (.int .i64 0) 1 8 Tryd.underlying22 hi0 hz0 hz1 hz2 rfl (by decide) (.slice (some ⟨w1.heap.size + 1, 0, none⟩) 0 0) 0 [] (by simp [Act.eval]) HOC.out ⟨b, off, none⟩ mi.length c (intsL mi) (by simp [Act.eval]) HLN.out HNC.out HON.out (by omega) (by unfold maxLen; omega) (by omega) (Nat.le_trans (by omega) (HLC.out).size) _ rfl ?_; intro g4 cap4 w4 hown hgrow hat hg4; have HO4 : Hid (w4.ownsRow w1.heap.size 3 1 (.slice (some ⟨g4, 0, none⟩) mi.length cap4) mi.length (intsL mi)) := Lib.hid (by simpa using hown); have HG4 := Lib.hid (grown_low HLC.out hgrow (Nat.le_succ _) (Nat.le_refl _)); have HGG := Lib.hid hgrow; have k0 := (hgrow.block _ (blkLt HQC.out) (by simp [Value.ownBlock]; omega)).trans HQC.out; have y0 : w4.cell? ⟨w.heap.size, 0, none⟩ = some (.int .i64 ms) := cellC k0 0; have y1 : w4.cell? ⟨w.heap.size, 1, none⟩ = some (.slice (some ⟨b, off, none⟩) mi.length c) := cellC k0 1; have kt := (hgrow.block _ (blkLt HTC.out) (by simp [Value.ownBlock])).trans HTC.out; have HKT := Lib.hid kt; have t0 : w4.cell? ⟨w1.heap.size, 0, none⟩ = some (.int .i64 0) := cellC kt 0; have t1 : w4.cell? ⟨w1.heap.size, 1, none⟩ = some (.slice none 0 0) := cellC kt 1; have tf0 := frzC kt 0; have tf1 := frzC kt 1; clear kt; clear hown hgrow hat k0))
          all_goals go_wp2
          all_goals go_meet
          all_goals (first
            | exact cpy_new (m := ⟨ms, mi⟩) HO4.out HGG.out
            | exact cpy_put (m := ⟨ms, mi⟩) HG4.out (by omega) HKT.out HO4.out)
      · obtain ⟨hB2, g, A1, c1, rfl, hg, hbox, hcp1, hcm1, hnil1, hrow1⟩ := hcut
        have hz1 : w.heap.size < w1.heap.size := blkLt HX1.out
        have HB2 := Lib.hid (HB1.out.trans (hB2.mono HB1.out.size))
        have HX2 := Lib.hid ((hB2.block _ (blkLt HX1.out)).trans HX1.out)
        have HG2 := Lib.hid hbox
        have hn60 := h1
        have HWA : Hid (WoAt wc wc.heap.size A1 c1 m) := Lib.hid ⟨fun hn => by
          obtain ⟨b, e, _, _, hcl⟩ := hrow1 hn
          exact ⟨b, 0, e, ltC (hcl 0 hn).1, fun i hi => by rw [Nat.zero_add]; exact (hcl i hi).1⟩, hcp1, hcm1, HW.out.fit, hnil1⟩
        have HROW := Lib.hid hrow1
        have HOP := Lib.hid (fun hW => open_calls m A1 c1 wc hW)
        unfold woV at HOP
        have y0 : wc.cell? ⟨g, 0, none⟩ = some (.int .i64 m.stp) := cellC hbox 0
        have y1 : wc.cell? ⟨g, 1, none⟩ = some (.slice A1 m.ins.length c1) := cellC hbox 1
        clear hB2 hbox hrow1 hnil1 x0 x1
        go_wp2_with fail
        refine (HOP.out HWA.out).mono ?_
        rintro e w3 ⟨hB3, h3⟩
        have HB3 := Lib.hid (HB2.out.trans (hB3.mono HB2.out.size))
        have HX3 := Lib.hid ((hB3.block _ (blkLt HX2.out)).trans HX2.out)
        have HG3 := Lib.hid ((hB3.block _ (blkLt HG2.out)).trans HG2.out)
        have HB23 := Lib.hid hB3
        have x0 : w3.cell? ⟨w.heap.size, 0, none⟩ = some (.int .i64 m.stp) := cellC HX3.out 0
        have x1 : w3.cell? ⟨w.heap.size, 1, none⟩ = some (.slice A m.ins.length c) := cellC HX3.out 1
        have hgl : g < wc.heap.size := blkLt HG2.out
        have hN0 : w.heap.size < wc.heap.size := blkLt HX2.out
        clear hB3 HOP y0 y1
        rcases h3 with ⟨hgd, X, A', c', rfl, hT, hXX, hA'⟩ | ⟨hgd, rfl⟩
        rotate_left 1
        · have HN := Lib.hid hgd
          clear hgd
          go_wp2_with fail
          refine (HGC.out _).mono ?_
          rintro e w4 ⟨hB4, h4⟩
          have HB4 := Lib.hid (HB3.out.trans (hB4.mono HB3.out.size))
          clear hB4
          rcases h4 with ⟨hn, _⟩ | ⟨_, rfl⟩
          · exact absurd hn HN.out
          go_wp2
          go_ret
          exact ⟨rfl, HB4.out⟩
        have HGD := Lib.hid hgd
        have HT := Lib.hid hT
        have HA' := Lib.hid hA'
        clear hgd hT hA'
        go_wp2_with fail
        refine (HGC.out _).mono ?_
        rintro e w4 ⟨hB4, h4⟩
        have HB4 := Lib.hid (HB3.out.trans (hB4.mono HB3.out.size))
        have HX4 := Lib.hid ((hB4.block _ (blkLt HX3.out)).trans HX3.out)
        have HG4 := Lib.hid ((hB4.block _ (blkLt HG3.out)).trans HG3.out)
        have HT4 := Lib.hid (HT.out.keep hB4)
        have HB24 := Lib.hid (HB23.out.trans (hB4.mono HB23.out.size))
        have hwc4 : wc.heap.size ≤ w4.heap.size := HB24.out.size
        have hX4 : X < w4.heap.size := blkLt HT4.out.box
        clear hB4 x0 x1
        rcases h4 with ⟨_, rfl⟩ | ⟨hn, _⟩
        rotate_left 1
        · exact absurd HGD.out hn
        have x1 : w4.cell? ⟨g, 1, none⟩ = some (.slice A1 m.ins.length c1) := cellC HG4.out 1
        go_wp2_with fail
        have HLP0 : Hid (LoP A1 m.ins.length w4 w4) := Lib.hid ⟨rfl, rfl, rfl, rfl, fun _ _ => rfl, fun b e i hi => by
          obtain ⟨b', e', _, _, hcl⟩ := HROW.out (by omega)
          obtain rfl : b = b' := by rw [e] at e'; injection e' with e'; injection e'
          have hbl : b < wc.heap.size := ltC (hcl i hi).1
          exact ⟨⟨_, keepC HB24.out (hcl i hi).1 hbl⟩, (HB24.out.frozen (p := ⟨b, i, none⟩) hbl).trans (hcl i hi).2⟩⟩
        have HGB : Hid (0 < m.ins.length → ∀ b, A1 = some ⟨b, 0, none⟩ → g ≠ b ∧ w1.heap.size ≤ b ∧ b < wc.heap.size) := Lib.hid (fun hn b e => by
          obtain ⟨b', e', h1, h2, hcl⟩ := HROW.out hn
          obtain rfl : b = b' := by rw [e] at e'; injection e' with e'; injection e'
          exact ⟨Ne.symm h2, h1, ltC (hcl 0 hn).1⟩)
        have HEX : Hid (0 < m.ins.length → ∃ b, A1 = some ⟨b, 0, none⟩) := Lib.hid (fun hn => by obtain ⟨b, e, _⟩ := HROW.out hn; exact ⟨b, e⟩)
        clear x1
        unfold maxLen at hcm1
        go_loopw [61] (fun i wr => ∃ (k : Nat), k ≤ m.ins.length ∧ i = .int .i64 k ∧ Hid (LoP A1 m.ins.length w4 wr)) (fun i _ => m.ins.length - (intOf i).toNat)
        case atStart => exact ⟨0, by omega, rfl, HLP0⟩
        case round =>
          obtain ⟨k, hk, rfl, HL⟩ := hrel
          by_cases hkt : k < m.ins.length
          · obtain ⟨b, e1⟩ := HEX.out (by omega)
            have e2 := HGB.out (by omega) b e1
            have x1 : wr.cell? ⟨g, 1, none⟩ = some (.slice A1 m.ins.length c1) := (World.cell?_of_block (a := ⟨g, 1, none⟩) (HL.out.block g (fun hn b' e' => (HGB.out hn b' e').1))).trans (cellC HG4.out 1)
            obtain ⟨⟨v, hv⟩, hf⟩ := HL.out.ints b e1 k hkt
            have HP := Lib.hid (fun x => HL.out.put e1 hkt x)
            subst e1
            have k0 : (0 : Int) ≤ (k : Int) := by omega
            have k1 : (k : Int) < (m.ins.length : Int) := by omega
            go_wp2
            go_roundw
            case rel => exact ⟨k + 1, by omega, by go_num, Lib.hid (HP.out _)⟩
            case measure => simp [intOf]; omega
          · obtain rfl : k = m.ins.length := by omega
            have hwcw : w.heap.size < wc.heap.size := hN0
            have h5 : Below w.heap.size w wr := ⟨HL.out.os.trans HB4.out.os, HL.out.tape.trans HB4.out.tape, HL.out.output.trans HB4.out.output, by rw [HL.out.size]; exact HB4.out.size, fun k hk => (HL.out.block k (fun hn b e => by have := (HGB.out hn b e).2.1; omega)).trans (HB4.out.block k hk)⟩
            have h6 : wr.heap[w.heap.size]? = some (.cells #[.int .i64 m.stp, .slice A m.ins.length c] 24 (0, 0)) := (HL.out.block _ (fun hn b e => by have := (HGB.out hn b e).2.1; omega)).trans HX4.out
            have hXc : wc.heap.size ≤ X := hXX
            have h7 : TpAt wr X A' c' m.stp m.ins 0 := HT4.out.same (M := wc.heap.size) (fun k hk => HL.out.block k (fun hn b e => by have := (HGB.out hn b e).2.2; omega)) (by rw [HL.out.size]; exact Nat.le_refl _) hXc (fun hn => by obtain ⟨b, off, e, hb⟩ := HA'.out hn; exact ⟨b, off, e, hb⟩)
            have hXl : X < wr.heap.size := blkLt h7.box
            have hRow : ∀ b off, A' = some ⟨b, off, none⟩ → 0 < m.ins.length → b ≠ wr.heap.size ∧ w.heap.size < b := fun b off e hn => by
              obtain ⟨b', off', e', hb⟩ := HA'.out hn
              obtain ⟨b2, off2, e2, _, hb2, _⟩ := h7.row hn
              have q1 : b = b' := by rw [e] at e'; injection e' with e'; injection e'
              have q2 : b = b2 := by rw [e] at e2; injection e2 with e2; injection e2
              omega
            have HR6 : Hid (RP m A c w.heap.size X A' c' wr.heap.size 0 w (wr.alloc (.cells #[.int .i64 0] 3))) := Lib.hid
              ⟨h7.keep ((Below.refl _ _).alloc (Nat.le_refl _) _), newAt _ _ _ rfl, h5.alloc h5.size _, (Below.heap_alloc _ _ _ (blkLt h6)).trans h6, by omega, by omega, hRow, by omega, by have := h5.size; omega⟩
            clear h5 h6 h7 hRow HGB HEX HL HB4 HX4 HG4 HT4 HLP0 hk hkt
            go_upto_region 16 with (fail)
            generalize hNa : wr.heap.size = Na at *
            generalize wr.alloc (.cells #[.int .i64 0] 3) = W6 at *
            clear hNa hn60 d1 d2 d3 d4 HB3 HX3 HG3 HG2 HX2 HB2 HX1 HB1 HX0 HB0 HROW HWA HB23 HB24 hX4 hwc4 hcm1 hcp1 hXl hz1 hgl
            have HTC := Lib.hid (fun q W hT (hq : q ≤ m.ins.length) => take_calls X A' c' m.stp m.ins q W hT (by omega) (by omega))
            have HGO := Lib.hid (fun q (tv : Int) W hT => go_calls X A' c' m.stp m.ins q tv W hT (by omega))
            go_loopw [74] (fun i wr => ∃ (j at_ : Nat), j ≤ acts.length ∧ i = .int .i64 j ∧ Hid (RP m A c w.heap.size X A' c' Na at_ w wr)) (fun i _ => acts.length - (intOf i).toNat)
            case atStart => exact ⟨0, 0, by omega, rfl, HR6⟩
            case round =>
              clear HR6
              obtain ⟨j, at_, hj, rfl, HR⟩ := hrel
              obtain ⟨wo, rfl⟩ : ∃ x, x = wr := ⟨_, rfl⟩
              by_cases hjt : j < acts.length
              · obtain ⟨b, off, rfl, hbb, hcl⟩ := HBA.out (by omega)
                have y := keepC HR.out.low (hcl j hjt) hbb
                have hfa := HFA.out _ (List.getElem_mem hjt)
                generalize acts[j] = a at *
                have j0 : (0 : Int) ≤ (j : Int) := by omega
                have j1 : (j : Int) < (acts.length : Int) := by omega
                clear hcl
                obtain ⟨fa0, fa1⟩ := hfa
                have ht : (a.tmod 2 == 0) = true ∨ (a.tmod 2 == 0) = false := by cases (a.tmod 2 == 0); exact .inr rfl; exact .inl rfl
                go_upto_if 80 with (fail)
                go_cut [12, 13, 14] from 78 to 135 (fun _ _ _ wx => ∃ at2 : Nat, Hid (RP m A c w.heap.size X A' c' Na at2 w wx))
                case first =>
                  have hle := HR.out.le
                  have z9 : wo.cell? ⟨Na, 0, none⟩ = some (.int .i64 (at_ : Int)) := HR.out.box.cell
                  have z2 : wo.cell? ⟨w.heap.size, 1, none⟩ = some (.slice A m.ins.length c) := cellC HR.out.wb 1
                  rcases ht with t1 | t1
                  · go_wp2_with fail
                    refine (HTC.out at_ wo HR.out.tp hle).mono ?_
                    rintro e w7 ⟨hc7, h7⟩
                    clear z9 z2 y
                    rcases h7 with ⟨hx, rfl, hT7⟩ | ⟨hx, rfl, hT7⟩
                    · have hk := HR.out.chg hc7 hT7 hx
                      obtain ⟨b2, off2, rfl, _, hcl2⟩ := (HW.out.below hk.2.2.1 (Nat.le_refl _)).row (by omega)
                      have z3 := hcl2 at_ hx
                      have z9 : w7.cell? ⟨Na, 0, none⟩ = some (.int .i64 (at_ : Int)) := hk.2.1.cell
                      have f9 := hk.2.1.frozen
                      have z2 : w7.cell? ⟨w.heap.size, 1, none⟩ = some (.slice (some ⟨b2, off2, none⟩) m.ins.length c) := cellC hk.2.2.2.1 1
                      have HK := Lib.hid (HR.out.setAt hk)
                      have e1 : ((at_ : Int) == (m.ins.length : Int)) = false := beq_eq_false_iff_ne.2 (by omega)
                      have e2 : (at_ == m.ins.length) = false := beq_eq_false_iff_ne.2 (by omega)
                      have q0 : (0 : Int) ≤ (at_ : Int) := by omega
                      have q1 : (at_ : Int) < (m.ins.length : Int) := by omega
                      generalize m.ins[at_] = v at *
                      have v1 : (v == v) = true := beq_self_eq_true v
                      have v2 : (v != v) = false := by simp [bne]
                      clear hk hcl2 hc7 hT7
                      go_wp2
                      go_meet
                      case rel => exact ⟨at_ + 1, HK⟩
                    · have hk := HR.out.chg hc7 hT7 hle
                      obtain rfl : at_ = m.ins.length := by omega
                      have z9 : w7.cell? ⟨Na, 0, none⟩ = some (.int .i64 (m.ins.length : Int)) := hk.2.1.cell
                      have z2 : w7.cell? ⟨w.heap.size, 1, none⟩ = some (.slice A m.ins.length c) := cellC hk.2.2.2.1 1
                      have HK := Lib.hid (HR.out.mk' hk)
                      have e1 : ((m.ins.length : Int) == (m.ins.length : Int)) = true := beq_self_eq_true _
                      have e2 : (m.ins.length == m.ins.length) = true := beq_self_eq_true _
                      clear hk hc7 hT7 hx
                      go_wp2
                      go_meet
                      case rel => exact ⟨m.ins.length, HK⟩
                  · go_wp2_with fail
                    refine (HGO.out at_ (a.tdiv 2) wo HR.out.tp).mono ?_
                    rintro e w7 ⟨hc7, h7⟩
                    clear z9 z2 y
                    generalize a.tdiv 2 = tv at *
                    rcases h7 with ⟨h0, hx, rfl, hT7⟩ | ⟨hx, rfl, hT7⟩
                    · obtain ⟨tn, rfl⟩ := Int.eq_ofNat_of_zero_le h0
                      rw [Int.toNat_natCast] at hT7
                      have hk := HR.out.chg hc7 hT7 (by omega)
                      have f9 := hk.2.1.frozen
                      have z9 : w7.cell? ⟨Na, 0, none⟩ = some (.int .i64 (at_ : Int)) := hk.2.1.cell
                      have z2 : w7.cell? ⟨w.heap.size, 1, none⟩ = some (.slice A m.ins.length c) := cellC hk.2.2.2.1 1
                      have HK := Lib.hid (HR.out.setAt hk)
                      have q0 : decide ((0 : Int) ≤ (tn : Int)) = true := decide_eq_true (by omega)
                      have q1 : decide ((tn : Int) ≤ (m.ins.length : Int)) = true := decide_eq_true hx
                      have q2 : decide (tn ≤ m.ins.length) = true := decide_eq_true (by omega)
                      clear hk hc7 hT7 h0 hx
                      go_wp2
                      go_meet
                      case rel => exact ⟨tn, HK⟩
                    · have hk := HR.out.chg hc7 hT7 hle
                      have z9 : w7.cell? ⟨Na, 0, none⟩ = some (.int .i64 (at_ : Int)) := hk.2.1.cell
                      have z2 : w7.cell? ⟨w.heap.size, 1, none⟩ = some (.slice A m.ins.length c) := cellC hk.2.2.2.1 1
                      have HK := Lib.hid (HR.out.mk' hk)
                      have hq : decide ((0 : Int) ≤ tv) = false ∨ (decide ((0 : Int) ≤ tv) = true ∧ decide (tv ≤ (m.ins.length : Int)) = false) := by
                        by_cases h0 : 0 ≤ tv
                        · exact .inr ⟨decide_eq_true h0, decide_eq_false (fun h => hx ⟨h0, h⟩)⟩
                        · exact .inl (decide_eq_false h0)
                      clear hk hc7 hT7 hx
                      rcases hq with q0 | ⟨q0, q1⟩
                      all_goals
                        go_wp2
                        go_meet
                        case rel => exact ⟨at_, HK⟩
                case rest =>
                  obtain ⟨at2, HR2⟩ := hcut
                  have hsz := HR2.out.low.size
                  have hNaL := HR2.out.box.lt
                  have hXL := blkLt HR2.out.tp.box
                  have HBn : Hid (Below wc.heap.size wc ((wc.alloc (.cells #[.int .i64 0] 3)).alloc (.cells #[.bool true] 4))) := Lib.hid (((Below.refl _ _).alloc (Nat.le_refl _) _).alloc (by simp) _)
                  have HN8 : Hid (Boxed ((wc.alloc (.cells #[.int .i64 0] 3)).alloc (.cells #[.bool true] 4)) wc.heap.size 3 (.int .i64 0)) := Lib.hid ((Below.heap_alloc _ _ _ (by simp)).trans (newAt _ _ _ rfl))
                  have HO8 : Hid (Boxed ((wc.alloc (.cells #[.int .i64 0] 3)).alloc (.cells #[.bool true] 4)) (wc.heap.size + 1) 4 (.bool true)) := Lib.hid (newAt _ _ _ (by simp))
                  clear hz2 y
                  go_wp2_with fail
                  generalize hW8 : (wc.alloc (.cells #[.int .i64 0] 3)).alloc (.cells #[.bool true] 4) = W8 at *
                  have hz8 : W8.heap.size = wc.heap.size + 2 := by rw [← hW8]; simp
                  have HR8 := Lib.hid (HR2.out.below HBn.out)
                  have HRB := Lib.hid (show ∀ b off, A' = some ⟨b, off, none⟩ → 0 < m.ins.length → b < wc.heap.size from fun b off e hn => by
                    obtain ⟨b2, off2, e2, _, hb2, _⟩ := HR2.out.tp.row hn
                    have q2 : b = b2 := by rw [e] at e2; injection e2 with e2; injection e2
                    omega)
                  clear hW8
                  refine (left_calls X A' c' m.stp m.ins at2 W8 HR8.out.tp).mono ?_
                  rintro e w9 ⟨hB9, gi, gf, rfl, hgi, hgf, hci, hcf⟩
                  have HR9 := Lib.hid (HR8.out.below hB9)
                  have HO9 := Lib.hid ((hB9.block _ HO8.out.lt).trans HO8.out)
                  have HN9 := Lib.hid ((hB9.block _ HN8.out.lt).trans HN8.out)
                  have hle := HR9.out.le
                  have hX9 := HR9.out.hX
                  have hN9 := HR9.out.hN
                  have HEA := Lib.hid (each_calls A A' c c' m.stp m.ins at2 w.heap.size w9.heap.size (wc.heap.size + 1) Na wc.heap.size w.heap.size gi gf w9 HO9.out HR9.out.box HN9.out HR9.out.wb (HW.out.below HR9.out.low (Nat.le_refl _)).row
                    (fun hn => by obtain ⟨b, off, e, _, h1, h2⟩ := HR9.out.tp.row hn; exact ⟨b, off, e, h1, h2⟩) (by omega) (by omega) (by omega) (by omega) (fun b off e hn => by have := HRB.out b off e hn; omega) hci hcf hle (by omega) (by omega) (by omega) (by omega) (by omega) (by omega))
                  clear hB9 hci hcf
                  go_wp2_with fail
                  refine HEA.out.mono ?_
                  rintro e w10 ⟨⟨vv, rfl⟩, hc10, ho10, hn10⟩
                  have hR10 := HR9.out.ch2 hc10 ⟨by omega, by omega⟩ ⟨by omega, by omega⟩ ⟨by omega, by omega⟩ (fun b off e hn => by have := HRB.out b off e hn; omega)
                  have HR10 := Lib.hid hR10
                  have HRD : Hid (∀ n, TpAt (w10.drewN n) X A' c' m.stp m.ins at2) := Lib.hid (fun n => hR10.tp.put (chg_drew n) hR10.tp.box)
                  have HAT := Lib.hid (fun W hT => at_calls X A' c' m.stp m.ins at2 W hT)
                  have z1 : w10.cell? ⟨wc.heap.size + 1, 0, none⟩ = some (.bool true) := ho10.cell
                  have z2 : w10.cell? ⟨wc.heap.size, 0, none⟩ = some (.int .i64 ((min 5 (m.ins.length - at2) : Nat) : Int)) := hn10.cell
                  have z3 : w10.cell? ⟨Na, 0, none⟩ = some (.int .i64 (at2 : Int)) := hR10.box.cell
                  have z4 : w10.cell? ⟨w.heap.size, 1, none⟩ = some (.slice A m.ins.length c) := cellC hR10.wb 1
                  have q0 : (0 : Int) ≤ (at2 : Int) := by omega
                  have q1 : (at2 : Int) ≤ (m.ins.length : Int) := by omega
                  have q2 : (m.ins.length : Int) ≤ 60 := by omega
                  clear hc10 ho10 hn10 hR10 HEA HR9 HO9 HN9
                  have hwr : IntKind.i64.wrap ((m.ins.length : Int) - (at2 : Int)) = ((m.ins.length - at2 : Nat) : Int) := by rw [IntWalk.i64_in _ (by omega)]; omega
                  go_upto_region 33 with (fail)
                  generalize m.ins.length - at2 = dd at *
                  have v1 : ((at2 : Int) == (at2 : Int)) = true := beq_self_eq_true _
                  have v2 : ((at2 : Int) != (at2 : Int)) = false := by simp [bne]
                  by_cases h5 : 5 ≤ dd
                  · have e5 : min 5 dd = 5 := Nat.min_eq_left h5
                    rw [e5] at z2
                    have z2 : w10.cell? ⟨wc.heap.size, 0, none⟩ = some (.int .i64 5) := z2
                    have m1 : min (5 : Int) (dd : Int) = 5 := by omega
                    have m2 : ¬ (dd : Int) < 5 := by omega
                    have m3 : (5 : Int) ≤ (dd : Int) := by omega
                    have m4 : decide ((dd : Int) < 5) = false := decide_eq_false m2
                    have m5 : ((5 : Int) != 5) = false := by decide
                    clear e5
                    go_quiet ((go_at_call 20; exact Calls.quiet_of_same ((HAT.out _ (HRD.out _)).mono fun _ _ h => ⟨h.1, h.2.symm⟩)))
                    go_wp2
                    go_roundw
                    case rel => exact ⟨j + 1, at2, by omega, by go_num, Lib.hid (HR10.out.drewN _)⟩
                    case measure => simp [intOf]; omega
                  · have e5 : min 5 dd = dd := Nat.min_eq_right (by omega)
                    rw [e5] at z2
                    have m1 : min (5 : Int) (dd : Int) = (dd : Int) := by omega
                    have m2 : (dd : Int) < 5 := by omega
                    have m3 : ¬ (5 : Int) ≤ (dd : Int) := by omega
                    have m4 : decide ((dd : Int) < 5) = true := decide_eq_true m2
                    have m5 : ((dd : Int) != (dd : Int)) = false := by simp [bne]
                    have m6 : ((dd : Int) == (dd : Int)) = true := beq_self_eq_true _
                    clear e5
                    go_quiet ((go_at_call 20; exact Calls.quiet_of_same ((HAT.out _ (HRD.out _)).mono fun _ _ h => ⟨h.1, h.2.symm⟩)))
                    go_wp2
                    go_roundw
                    case rel => exact ⟨j + 1, at2, by omega, by go_num, Lib.hid (HR10.out.drewN _)⟩
                    case measure => simp [intOf]; omega
              · obtain rfl : j = acts.length := by omega
                have HBf := Lib.hid HR.out.low
                clear hjt hj
                go_wp2
                go_ret
                exact ⟨rfl, HBf.out⟩
    · have d3 : decide ((60 : Int) < (acts.length : Int)) = true := decide_eq_true (by omega)
      have d4 : decide (60 < acts.length) = true := decide_eq_true (by omega)
      clear h1 h2
      go_wp2_with fail
      refine (HAW.out _ HB1.out).mono ?_
      rintro e w2 ⟨rfl, hB2⟩
      have HB2 := Lib.hid (HB1.out.trans (hB2.mono HB1.out.size))
      clear hB2
      go_wp2
      go_ret
      exact ⟨rfl, HB2.out⟩
  · have d1 : decide ((60 : Int) < (m.ins.length : Int)) = true := decide_eq_true (by omega)
    have d2 : decide (60 < m.ins.length) = true := decide_eq_true (by omega)
    clear h1
    go_wp2_with fail
    refine (HAW.out _ HB1.out).mono ?_
    rintro e w2 ⟨rfl, hB2⟩
    have HB2 := Lib.hid (HB1.out.trans (hB2.mono HB1.out.size))
    clear hB2
    go_wp2
    go_ret
    exact ⟨rfl, HB2.out⟩
end Go.Proofs.YtoailhkaenofpaaDoor
