/-
  world's tapes: Open, Take, Go, At.
-/
import Derived.Test.YtoailhkaenofpaaDoorWdE
import Derived.Laws.AppendOwnNone
namespace Go.Proofs.YtoailhkaenofpaaDoor
open Go.RowKit

/-- A tape in memory. -/
structure TpAt (w : World) (X : Nat) (A : Option Addr) (c : Nat) (s : Int) (l : List Int) (at_ : Nat) : Prop where
  box : w.heap[X]? = some (.cells #[.int .i64 s, .slice A l.length c, .int .i64 (at_ : Int)] 60 (0, 0))
  row : 0 < l.length → ∃ b off, A = some ⟨b, off, none⟩ ∧ b ≠ X ∧ b < w.heap.size ∧ ∀ i (h : i < l.length), w.cell? ⟨b, off + i, none⟩ = some (.int .i64 l[i])
/-- All but one block as it was. -/
structure Chg (X : Nat) (w w' : World) : Prop where
  os : w'.os = w.os
  tape : w'.tape = w.tape
  output : w'.output = w.output
  size : w'.heap.size = w.heap.size
  block : ∀ k, k ≠ X → w'.heap[k]? = w.heap[k]?
theorem Chg.refl (X : Nat) (w : World) : Chg X w w := ⟨rfl, rfl, rfl, rfl, fun _ _ => rfl⟩
theorem Chg.trans {X : Nat} {a b c : World} (h : Chg X a b) (k : Chg X b c) : Chg X a c := ⟨k.os.trans h.os, k.tape.trans h.tape, k.output.trans h.output, k.size.trans h.size, fun i hi => (k.block i hi).trans (h.block i hi)⟩
theorem Chg.below {X B : Nat} {w0 a b : World} (h : Chg X a b) (k : Below B w0 a) (hX : B ≤ X) : Below B w0 b := ⟨h.os.trans k.os, h.tape.trans k.tape, h.output.trans k.output, by rw [h.size]; exact k.size, fun i hi => (h.block i (by omega)).trans (k.block i hi)⟩
theorem Chg.cell {X : Nat} {a b : World} (h : Chg X a b) {g o : Nat} {u : Value} (hc : a.cell? ⟨g, o, none⟩ = some u) (hg : g ≠ X) : b.cell? ⟨g, o, none⟩ = some u := (World.cell?_of_block (a := ⟨g, o, none⟩) (h.block g hg)).trans hc
theorem TpAt.put {w w' : World} {X c at_ at2 : Nat} {A : Option Addr} {s : Int} {l : List Int} (h : TpAt w X A c s l at_) (hc : Chg X w w') (hb : w'.heap[X]? = some (.cells #[.int .i64 s, .slice A l.length c, .int .i64 (at2 : Int)] 60 (0, 0))) : TpAt w' X A c s l at2 :=
  ⟨hb, fun hn => by
    obtain ⟨b, off, e, h1, h2, h3⟩ := h.row hn
    exact ⟨b, off, e, h1, by rw [hc.size]; exact h2, fun i hi => hc.cell (h3 i hi) h1⟩⟩
theorem TpAt.keep {w w' : World} {X c at_ : Nat} {A : Option Addr} {s : Int} {l : List Int} (h : TpAt w X A c s l at_) (hb : Below w.heap.size w w') : TpAt w' X A c s l at_ :=
  ⟨(hb.block _ (blkLt h.box)).trans h.box, fun hn => by
    obtain ⟨b, off, e, h1, h2, h3⟩ := h.row hn
    exact ⟨b, off, e, h1, Nat.lt_of_lt_of_le h2 hb.size, fun i hi => keepC hb (h3 i hi) h2⟩⟩
theorem chg_drew {X : Nat} {w : World} (n : Nat) : Chg X w (w.drewN n) := ⟨rfl, rfl, rfl, rfl, fun _ _ => rfl⟩
theorem chg_put (w : World) (X : Nat) (v : Value) : Chg X w (w.setCell ⟨X, 2, none⟩ v) := ⟨rfl, rfl, rfl, by simp [World.setCell], fun k hk => setNe _ _ _ _ _ hk⟩

/-- What Take answers. -/
def TkeP (X : Nat) (A : Option Addr) (c : Nat) (s : Int) (l : List Int) (at_ : Nat) (w : World) (e : Ending) (w' : World) : Prop :=
  Chg X w w' ∧ ((∃ h : at_ < l.length, e = .returned (.tuple #[.int .i64 l[at_], .int .i64 0]) ∧ TpAt w' X A c s l (at_ + 1)) ∨ (l.length ≤ at_ ∧ e = .returned (.tuple #[.int .i64 0, .int .i64 12]) ∧ TpAt w' X A c s l at_))
set_option maxRecDepth 100000 in
set_option maxHeartbeats 2000000 in
theorem take_calls (X : Nat) (A : Option Addr) (c : Nat) (s : Int) (l : List Int) (at_ : Nat) (w : World) (h : TpAt w X A c s l at_) (hl : l.length ≤ 1000000) (ha : at_ ≤ 1000000) :
    Calls Tryd.prog 16 #[.pointer (some ⟨X, 0, none⟩)] w (TkeP X A c s l at_ w) := by
  have HH := Lib.hid h
  have x1 : w.cell? ⟨X, 1, none⟩ = some (.slice A l.length c) := cellC h.box 1
  have x2 : w.cell? ⟨X, 2, none⟩ = some (.int .i64 (at_ : Int)) := cellC h.box 2
  have f2 := frzC h.box 2
  by_cases hlt : at_ < l.length
  · obtain ⟨b, off, rfl, hbX, hb, hc⟩ := h.row (by omega)
    have y := hc at_ hlt
    have d1 : decide ((l.length : Int) ≤ (at_ : Int)) = false := decide_eq_false (by omega)
    have d2 : decide (l.length ≤ at_) = false := decide_eq_false (by omega)
    have j0 : (0 : Int) ≤ (at_ : Int) := by omega
    have j1 : (at_ : Int) < (l.length : Int) := by omega
    have HLT := Lib.hid hlt
    have HV : Hid (∃ hx : at_ < l.length, l[at_] = l[at_]) := Lib.hid ⟨hlt, rfl⟩
    generalize hv : l[at_] = v at *
    have HVV := Lib.hid hv
    clear hc h hlt hv HV
    go_enter Tryd.func16, Tryd.ntmps16
    go_wp2
    go_quiet (fail)
    go_wp2
    go_quiet (fail)
    go_wp2
    go_ret2
    have hcg : ∀ n, Chg X w ((w.drewN n).setCell ⟨X, 2, none⟩ (.int .i64 ((at_ : Int) + 1))) := fun n => (chg_drew n).trans (chg_put _ _ _)
    refine ⟨hcg _, .inl ⟨HLT.out, (show Ending.returned (.tuple #[.int .i64 v, .int .i64 0]) = _ by rw [← show l[at_]'(HLT.out) = v from HVV.out]), HH.out.put (hcg _) ?_⟩⟩
    exact setAt _ X 2 _ _ _ _ (show (w.drewN _).heap[X]? = _ from HH.out.box)
  · have d1 : decide ((l.length : Int) ≤ (at_ : Int)) = true := decide_eq_true (by omega)
    have d2 : decide (l.length ≤ at_) = true := decide_eq_true (by omega)
    have HLT : Hid (l.length ≤ at_) := Lib.hid (by omega)
    clear h hlt
    go_enter Tryd.func16, Tryd.ntmps16
    go_wp2
    go_quiet (fail)
    go_wp2
    go_ret2
    exact ⟨chg_drew _, .inr ⟨HLT.out, rfl, HH.out.put (chg_drew _) HH.out.box⟩⟩

/-- What Go answers. -/
def GoP (X : Nat) (A : Option Addr) (c : Nat) (s : Int) (l : List Int) (at_ : Nat) (to : Int) (w : World) (e : Ending) (w' : World) : Prop :=
  Chg X w w' ∧ ((0 ≤ to ∧ to ≤ l.length ∧ e = .returned (.int .i64 0) ∧ TpAt w' X A c s l to.toNat) ∨ (¬ (0 ≤ to ∧ to ≤ l.length) ∧ e = .returned (.int .i64 15) ∧ TpAt w' X A c s l at_))
set_option maxRecDepth 100000 in
set_option maxHeartbeats 2000000 in
theorem go_calls (X : Nat) (A : Option Addr) (c : Nat) (s : Int) (l : List Int) (at_ : Nat) (to : Int) (w : World) (h : TpAt w X A c s l at_) (_hl : l.length ≤ 1000000) :
    Calls Tryd.prog 17 #[.pointer (some ⟨X, 0, none⟩), .int .i64 to] w (GoP X A c s l at_ to w) := by
  have HH := Lib.hid h
  have x1 : w.cell? ⟨X, 1, none⟩ = some (.slice A l.length c) := cellC h.box 1
  have x2 : w.cell? ⟨X, 2, none⟩ = some (.int .i64 (at_ : Int)) := cellC h.box 2
  have f2 := frzC h.box 2
  clear h
  by_cases h0 : 0 ≤ to
  · by_cases h1 : to ≤ l.length
    · have d0 : decide (to < 0) = false := decide_eq_false (by omega)
      have d1 : decide ((l.length : Int) < to) = false := decide_eq_false (by omega)
      have H0 := Lib.hid h0
      have H1 := Lib.hid h1
      have HTN : Hid ((to.toNat : Int) = to) := Lib.hid (by omega)
      clear h0 h1
      go_enter Tryd.func17, Tryd.ntmps17
      go_wp2
      go_ret
      refine ⟨chg_put _ _ _, .inl ⟨H0.out, H1.out, rfl, HH.out.put (chg_put _ _ _) ?_⟩⟩
      rw [HTN.out]
      exact setAt _ X 2 _ _ _ _ HH.out.box
    · have d0 : decide (to < 0) = false := decide_eq_false (by omega)
      have d1 : decide ((l.length : Int) < to) = true := decide_eq_true (by omega)
      have HN : Hid (¬ (0 ≤ to ∧ to ≤ l.length)) := Lib.hid (fun h => h1 h.2)
      clear h0 h1
      go_enter Tryd.func17, Tryd.ntmps17
      go_wp2
      go_ret
      exact ⟨Chg.refl _ _, .inr ⟨HN.out, rfl, HH.out⟩⟩
  · have d0 : decide (to < 0) = true := decide_eq_true (by omega)
    have HN : Hid (¬ (0 ≤ to ∧ to ≤ l.length)) := Lib.hid (fun h => h0 h.1)
    clear h0
    go_enter Tryd.func17, Tryd.ntmps17
    go_wp2
    go_ret
    exact ⟨Chg.refl _ _, .inr ⟨HN.out, rfl, HH.out⟩⟩
set_option maxRecDepth 100000 in
set_option maxHeartbeats 1000000 in
theorem at_calls (X : Nat) (A : Option Addr) (c : Nat) (s : Int) (l : List Int) (at_ : Nat) (w : World) (h : TpAt w X A c s l at_) :
    Calls Tryd.prog 20 #[.pointer (some ⟨X, 0, none⟩)] w fun e w' => e = .returned (.int .i64 (at_ : Int)) ∧ w = w' := by
  have x2 : w.cell? ⟨X, 2, none⟩ = some (.int .i64 (at_ : Int)) := cellC h.box 2
  clear h
  go_enter Tryd.func20, Tryd.ntmps20
  go_wp2
  go_ret
  exact ⟨rfl, rfl⟩

/-- What Open answers. -/
def OpP (m : WoM) (w : World) (e : Ending) (w' : World) : Prop :=
  Below w.heap.size w w' ∧ ((GoodW m ∧ ∃ X A c, e = .returned (.tuple #[.pointer (some ⟨X, 0, none⟩), .int .i64 0]) ∧ TpAt w' X A c m.stp m.ins 0 ∧ w.heap.size ≤ X ∧ (0 < m.ins.length → ∃ b off, A = some ⟨b, off, none⟩ ∧ w.heap.size ≤ b)) ∨ (¬ GoodW m ∧ e = .returned (.tuple #[.pointer none, .int .i64 15])))
set_option maxRecDepth 100000 in
set_option maxHeartbeats 2000000 in
theorem open_calls (m : WoM) (A : Option Addr) (c : Nat) (w : World) (h : WoAt w w.heap.size A c m) : Calls Tryd.prog 15 #[woV A c m] w (OpP m w) := by
  obtain ⟨i0, hi0, hz0, hz1, hz2⟩ := info_parts Tryd.infoInt
  have HW := Lib.hid h
  have hcap := h.cap
  have hfew := h.few
  unfold maxLen at hfew
  have HB0 := Lib.hid ((Below.refl w.heap.size w).alloc (Nat.le_refl _) (.cells #[.int .i64 m.stp, .slice A m.ins.length c] 24))
  have HX0 := Lib.hid (heapOne w #[.int .i64 m.stp, .slice A m.ins.length c] 24)
  have HGC := Lib.hid (fun W => good_calls m A c W)
  unfold woV at HGC ⊢
  clear h
  go_enter Tryd.func15, Tryd.ntmps15
  go_wp2_with fail
  generalize w.alloc (.cells #[.int .i64 m.stp, .slice A m.ins.length c] 24) = W0 at *
  refine (HGC.out _).mono ?_
  rintro e w1 ⟨hB1, h1⟩
  have HB1 := Lib.hid (HB0.out.trans (hB1.mono HB0.out.size))
  have HX1 := Lib.hid ((hB1.block _ (blkLt HX0.out)).trans HX0.out)
  clear hB1 HGC
  rcases h1 with ⟨hg, rfl⟩ | ⟨hg, rfl⟩
  rotate_left 1
  · have HG := Lib.hid hg
    clear hg
    go_wp2
    go_ret2
    exact ⟨HB1.out, .inr ⟨HG.out, rfl⟩⟩
  · have HG := Lib.hid hg
    have hlen := hg.2
    clear hg
    have x0 : w1.cell? ⟨w.heap.size, 0, none⟩ = some (.int .i64 m.stp) := cellC HX1.out 0
    have x1 : w1.cell? ⟨w.heap.size, 1, none⟩ = some (.slice A m.ins.length c) := cellC HX1.out 1
    have hlt : w.heap.size < w1.heap.size := blkLt HX1.out
    have f1 := frzC HX1.out 1
    by_cases hne : m.ins = []
    · obtain ⟨ms, mi⟩ := m
      dsimp only at hne
      subst hne
      dsimp only [List.length_nil] at *
      have hnil := HW.out.nil
      rcases A with _ | ad
      · obtain rfl : c = 0 := hnil rfl
        clear hnil
        go_wp2_with (at_builtin; refine wpList_append_own_none rfl _ _ 22 rfl (w.heap.size + 1) 3 i0 1 Tryd.underlying22 hi0 (.slice none 0 0) 0 [] rfl (World.ownsRow_nil _ _ _ _) (by rfl) ?_)
        go_ret2
        have hzz : (w1.setCell ⟨w.heap.size, 1, none⟩ (.slice none 0 0)).heap.size = w1.heap.size := by simp [World.setCell]
        have h3 : Below w.heap.size w w1 := HB1.out
        exact ⟨(h3.setCell (p := ⟨w.heap.size, 1, none⟩) (by simp) _).alloc (by rw [hzz]; omega) _, .inl ⟨HG.out, w1.heap.size, none, 0, rfl, ⟨newAt _ _ _ hzz, fun h => absurd h (by simp)⟩, by omega, fun h => absurd h (by simp)⟩⟩
      · clear hnil
        go_wp2_with (at_builtin; refine wpList_append_own _ rfl _ _ 22 rfl (w.heap.size + 1) 3 i0 (.int .i64 0) 1 8 Tryd.underlying22 hi0 hz0 hz1 hz2 rfl (by decide) (.slice none 0 0) 0 [] rfl (World.ownsRow_nil _ _ _ _) ad 0 c [] (by rfl) rfl (fun j u h => by simp at h) (fun u h => by simp at h) (by unfold maxLen; omega) (by omega) (by omega) ?_; intro v' w3 hown3 hgrow hnil; obtain rfl : v' = .slice none 0 0 := hnil.2 ⟨rfl, rfl⟩; clear hnil; have k3 := (hgrow.block _ (blkLt HX1.out) (by simp [Value.ownBlock])).trans HX1.out; have HX3 := Lib.hid k3; have y0 : w3.cell? ⟨w.heap.size, 0, none⟩ = some (.int .i64 ms) := cellC k3 0; have y1 : w3.cell? ⟨w.heap.size, 1, none⟩ = some (.slice (some ad) 0 c) := cellC k3 1; have g1 := frzC k3 1; clear k3 x0 x1 f1; have HG3 := Lib.hid hgrow; clear hgrow hown3)
        have hz3 : w1.heap.size ≤ w3.heap.size := HG3.out.size
        go_ret2
        have hzz : (w3.setCell ⟨w.heap.size, 1, none⟩ (.slice none 0 0)).heap.size = w3.heap.size := by simp [World.setCell]
        have h3 : Below w.heap.size w w3 := ⟨HG3.out.os.trans HB1.out.os, HG3.out.tape.trans HB1.out.tape, HG3.out.output.trans HB1.out.output, by omega, fun k hk => (HG3.out.block k (by omega) (by simp [Value.ownBlock])).trans (HB1.out.block k hk)⟩
        exact ⟨(h3.setCell (p := ⟨w.heap.size, 1, none⟩) (by simp) _).alloc (by rw [hzz]; omega) _, .inl ⟨HG.out, w3.heap.size, none, 0, rfl, ⟨newAt _ _ _ hzz, fun h => absurd h (by simp)⟩, by omega, fun h => absurd h (by simp)⟩⟩
    · have hn : 0 < m.ins.length := List.length_pos_iff.2 hne
      obtain ⟨b, off, rfl, hb, hcl⟩ := HW.out.row hn
      have HNW := Lib.hid (show ∀ j u, (intsL m.ins)[j]? = some u → w1.cell? ((⟨b, off, none⟩ : Addr).add j) = some u from fun j u hj => by
        have hjl : j < m.ins.length := by
          rcases Nat.lt_or_ge j m.ins.length with h | h
          · exact h
          · rw [List.getElem?_eq_none (by simpa [intsL] using h)] at hj; cases hj
        have := keepC HB1.out (hcl j hjl) hb
        rw [show (⟨b, off, none⟩ : Addr).add j = ⟨b, off + j, none⟩ by simp [Addr.add], this]
        simp [intsL, hjl] at hj
        rw [hj])
      have HON : Hid (∀ u ∈ intsL m.ins, u.oneCell' = true) := Lib.hid (fun u hu => by
        obtain ⟨x, _, rfl⟩ := List.mem_map.1 hu; rfl)
      have HLN : Hid ((intsL m.ins).length = m.ins.length * 1) := Lib.hid (by simp [intsL])
      clear hcl hne
      go_wp2_with (at_builtin; refine wpList_append_own _ rfl _ _ 22 rfl (w.heap.size + 1) 3 i0 (.int .i64 0) 1 8 Tryd.underlying22 hi0 hz0 hz1 hz2 rfl (by decide) (.slice none 0 0) 0 [] rfl (World.ownsRow_nil _ _ _ _) ⟨b, off, none⟩ m.ins.length c (intsL m.ins) (by rfl) HLN.out HNW.out HON.out (by unfold maxLen; omega) (by omega) (by omega) ?_; intro v' w3 hown3 hgrow hnil; clear hnil; obtain ⟨A4, c4, rfl⟩ := own_sliceC hown3; have k3 := (hgrow.block _ (blkLt HX1.out) (by simp [Value.ownBlock])).trans HX1.out; have HX3 := Lib.hid k3; have y0 : w3.cell? ⟨w.heap.size, 0, none⟩ = some (.int .i64 m.stp) := cellC k3 0; have y1 : w3.cell? ⟨w.heap.size, 1, none⟩ = some (.slice (some ⟨b, off, none⟩) m.ins.length c) := cellC k3 1; have g1 := frzC k3 1; clear k3 x0 x1 f1; have HG3 := Lib.hid hgrow; have H3 := Lib.hid hown3; clear hgrow hown3)
      go_ret2
      have hz : w1.heap.size ≤ w3.heap.size := HG3.out.size
      have hBf : Below w.heap.size w ((w3.setCell ⟨w.heap.size, 1, none⟩ (.slice A4 m.ins.length c4)).alloc (.cells #[.int .i64 m.stp, .slice A4 m.ins.length c4, .int .i64 0] 60)) := by
        have h3 : Below w.heap.size w w3 := ⟨HG3.out.os.trans HB1.out.os, HG3.out.tape.trans HB1.out.tape, HG3.out.output.trans HB1.out.output, by omega, fun k hk => (HG3.out.block k (by omega) (by simp [Value.ownBlock])).trans (HB1.out.block k hk)⟩
        exact (h3.setCell (p := ⟨w.heap.size, 1, none⟩) (by simp) _).alloc (by simp [World.setCell]; omega) _
      obtain ⟨g, cap, hv, hg1, hg2, hc1, hc2, hcl⟩ := own_cellC H3.out (by omega)
      injection hv with e1 e2 e3
      subst e1 e3
      have hzz : ((w3.setCell ⟨w.heap.size, 1, none⟩ (.slice (some ⟨g, 0, none⟩) m.ins.length c4))).heap.size = w3.heap.size := by simp [World.setCell]
      refine ⟨hBf, .inl ⟨HG.out, w3.heap.size, _, _, rfl, ⟨newAt _ _ _ hzz, fun _ => ⟨g, 0, rfl, by omega, by simp only [World.size_alloc, hzz]; omega, fun i hi => ?_⟩⟩, by omega, fun _ => ⟨g, 0, rfl, by omega⟩⟩⟩
      refine newC ((World.cell?_of_block (a := ⟨g, 0 + i, none⟩) (setNe _ _ _ _ _ (by simp; omega))).trans ?_) _
      rw [Nat.zero_add, hcl i (by omega)]
      simp [intsL, hi]
end Go.Proofs.YtoailhkaenofpaaDoor
