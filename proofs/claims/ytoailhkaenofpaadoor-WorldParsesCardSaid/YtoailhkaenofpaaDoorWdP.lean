/-
  world.Parse: a text's world; the example.
-/
import Derived.Test.YtoailhkaenofpaaDoorWdW
import Derived.Test.YtoailhkaenofpaaDoorWdC
namespace Go.Proofs.YtoailhkaenofpaaDoor
open Go.RowKit

/-- What Parse answers. -/
def PaP (T : List UInt8) (w : World) (e : Ending) (w' : World) : Prop :=
  Below w.heap.size w w' ∧ ((∃ m A c, wOf T = some (m.stp :: m.ins) ∧ GoodW m ∧ e = .returned (.tuple #[woV A c m, .int .i64 0]) ∧ WoAt w' w'.heap.size A c m) ∨
    (∃ m, wOf T = some (m.stp :: m.ins) ∧ ¬ GoodW m ∧ e = .returned (.tuple #[.agg #[.int .i64 0, .slice none 0 0], .int .i64 15])) ∨
    (wOf T = none ∧ e = .returned (.tuple #[.agg #[.int .i64 0, .slice none 0 0], .int .i64 3])))
theorem good_take {s : Int} {l : List Int} : GoodW ⟨s, l.take 1001⟩ ↔ GoodW ⟨s, l⟩ := by
  unfold GoodW
  dsimp only
  rw [List.length_take]
  omega
theorem alloc1 (w : World) (o : Obj) : ∃ W, W = w.alloc o ∧ W.heap.size = w.heap.size + 1 ∧ Below w.heap.size w W ∧ W.heap[w.heap.size]? = some o :=
  ⟨_, rfl, by simp, (Below.refl _ _).alloc (Nat.le_refl _) _, newAt _ _ _ rfl⟩

theorem put2 {w1 : World} {N : Nat} {u v a b : Value} {t : TypeId} (h : w1.heap[N]? = some (.cells #[a, b] t (0, 0))) :
    ((w1.setCell ⟨N, 0, none⟩ u).setCell ⟨N, 1, none⟩ v).cell? ⟨N, 0, none⟩ = some u ∧ ((w1.setCell ⟨N, 0, none⟩ u).setCell ⟨N, 1, none⟩ v).cell? ⟨N, 1, none⟩ = some v ∧ Below N w1 ((w1.setCell ⟨N, 0, none⟩ u).setCell ⟨N, 1, none⟩ v) ∧
    ((w1.setCell ⟨N, 0, none⟩ u).setCell ⟨N, 1, none⟩ v).heap.size = w1.heap.size ∧ ∀ k, k ≠ N → ((w1.setCell ⟨N, 0, none⟩ u).setCell ⟨N, 1, none⟩ v).heap[k]? = w1.heap[k]? :=
  ⟨cellC (set2 h u v) 0, cellC (set2 h u v) 1, ((Below.refl N w1).setCell (p := ⟨N, 0, none⟩) (by simp) _).setCell (p := ⟨N, 1, none⟩) (by simp) _, by simp [World.setCell], fun k hk => (setNe _ _ _ _ _ hk).trans (setNe _ _ _ _ _ hk)⟩

set_option maxRecDepth 100000 in
set_option maxHeartbeats 2000000 in
theorem parse_calls (T : List UInt8) (hT : T.length ≤ 1000000) (w : World) (hX : TX w) : Calls Tryd.prog 11 #[.string (bs T)] w (PaP T w) := by
  have HWO := Lib.hid (fun W (hb : Below w.heap.size w W) => worldOf_calls T hT W (hX.below hb (Nat.le_refl _)))
  have HB0 := Lib.hid ((Below.refl w.heap.size w).alloc (Nat.le_refl _) (.cells #[.int .i64 0, .slice none 0 0] 24))
  have HX0 := Lib.hid (heapOne w #[.int .i64 0, .slice none 0 0] 24)
  clear hX hT
  go_enter Tryd.func11, Tryd.ntmps11
  go_wp2_with fail
  generalize w.alloc (.cells #[.int .i64 0, .slice none 0 0] 24) = W0 at *
  refine (HWO.out _ HB0.out).mono ?_
  rintro e w1 ⟨hB1, h1⟩
  have HB1 := Lib.hid (HB0.out.trans (hB1.mono HB0.out.size))
  have HX1 := Lib.hid ((hB1.block _ (blkLt HX0.out)).trans HX0.out)
  have hlt : w.heap.size < w1.heap.size := blkLt HX1.out
  have hlt0 : w.heap.size < W0.heap.size := blkLt HX0.out
  clear hB1 HWO
  rcases h1 with ⟨hw, rfl⟩ | ⟨s, l, A, c, hw, rfl, hA, hc, hm, hnew⟩
  · have HW := Lib.hid hw
    have x0 := cellC HX1.out 0
    have x1 := cellC HX1.out 1
    have f0 := frzC HX1.out 0
    have f1 := frzC HX1.out 1
    clear hw
    go_wp2
    obtain ⟨p0, p1, pb, ps, _⟩ := put2 (u := .int .i64 0) (v := .slice none 0 0) HX1.out
    have q0 := newC p0 (.cells #[.int .i64 0, .slice none 0 0] 24)
    have q1 := newC p1 (.cells #[.int .i64 0, .slice none 0 0] 24)
    exact bodyPost_ret (v := .tuple #[.agg #[.int .i64 0, .slice none 0 0], .int .i64 3]) (by simp [results, Tryd.f11, go_sem, q0, q1]) rfl ⟨(HB1.out.trans pb).alloc (by rw [ps]; omega) _, .inr (.inr ⟨HW.out, rfl⟩)⟩
  · have HW := Lib.hid hw
    have HA := Lib.hid hA
    have HNW := Lib.hid hnew
    clear hnew
    obtain ⟨m, hm1, hfit, _⟩ := txt_wOf hw
    obtain ⟨ms, mi⟩ := m
    dsimp only at hm1
    injection hm1 with e1 e2
    subst e1 e2
    have HFIT := Lib.hid hfit
    have HG := Lib.hid (fun W => good_calls ⟨s, l.take 1001⟩ A c W)
    have HGT : Hid (GoodW ⟨s, l.take 1001⟩ ↔ GoodW ⟨s, l⟩) := Lib.hid good_take
    have HPL : Hid (GoodW ⟨s, l⟩ → l.take 1001 = l) := Lib.hid (fun h => List.take_of_length_le (by have := h.2; dsimp only at this; omega))
    have HB12 := Lib.hid ((Below.refl w1.heap.size w1).alloc (Nat.le_refl _) (.cells #[.int .i64 s, .slice A (l.take 1001).length c] 24))
    have HB2 := Lib.hid (HB1.out.alloc (by omega) (.cells #[.int .i64 s, .slice A (l.take 1001).length c] 24))
    have HX2 := Lib.hid ((Below.heap_alloc w1 (.cells #[.int .i64 s, .slice A (l.take 1001).length c] 24) _ hlt).trans HX1.out)
    have HY2 := Lib.hid (heapOne w1 #[.int .i64 s, .slice A (l.take 1001).length c] 24)
    unfold woV at HG
    dsimp only at HG
    have hc' := hc
    generalize hp : l.take 1001 = p at *
    have HP := Lib.hid hp
    clear hw hA hfit hp hc' 
    go_wp2_with fail
    generalize hW2 : w1.alloc (.cells #[.int .i64 s, .slice A p.length c] 24) = w2 at *
    clear hW2
    refine (HG.out _).mono ?_
    rintro e w3 ⟨hB3, h3⟩
    have HB3 := Lib.hid (HB2.out.trans (hB3.mono HB2.out.size))
    have HX3 := Lib.hid ((hB3.block _ (blkLt HX2.out)).trans HX2.out)
    have HB23 := Lib.hid (hB3.mono HB12.out.size)
    have HY3 := Lib.hid ((hB3.block _ (blkLt HY2.out)).trans HY2.out)
    clear hB3 HG
    have x0 := cellC HX3.out 0
    have x1 := cellC HX3.out 1
    have f0 := frzC HX3.out 0
    have f1 := frzC HX3.out 1
    have y0 := cellC HY3.out 0
    have y1 := cellC HY3.out 1
    rcases h3 with ⟨hg, rfl⟩ | ⟨hg, rfl⟩
    · have HGD := Lib.hid (HGT.out.1 hg)
      clear hg
      have HWA : Hid (WoAt ((w3.setCell ⟨w.heap.size, 0, none⟩ (.int .i64 s)).setCell ⟨w.heap.size, 1, none⟩ (.slice A p.length c)) ((w3.setCell ⟨w.heap.size, 0, none⟩ (.int .i64 s)).setCell ⟨w.heap.size, 1, none⟩ (.slice A p.length c)).heap.size A c ⟨s, l⟩) := Lib.hid (by
        obtain ⟨_, _, _, ps, pk⟩ := put2 (u := .int .i64 s) (v := .slice A p.length c) HX3.out
        have e := HPL.out HGD.out
        refine ⟨?_, by rw [← e]; exact hc, hm, HFIT.out, fun e => by obtain ⟨_, _, e2, _⟩ := HNW.out; rw [e] at e2; cases e2⟩
        rw [ps]
        show IsAt _ _ A l
        rw [← e]
        intro hn
        obtain ⟨b, off, e1, hb, hcl⟩ := HA.out hn
        obtain ⟨b', off', e2, hb'⟩ := HNW.out
        obtain ⟨rfl, rfl⟩ : b = b' ∧ off = off' := by rw [e1] at e2; injection e2 with e2; injection e2 with e2 e3; exact ⟨e2, e3⟩
        have h31 : w1.heap.size ≤ w3.heap.size := Nat.le_of_lt (blkLt HY3.out)
        refine ⟨b, off, e1, by omega, fun i hi => ?_⟩
        have k1 := keepC HB23.out (keepC HB12.out (hcl i hi) hb) hb
        exact (World.cell?_of_block (a := ⟨b, off + i, none⟩) (pk b (by omega))).trans k1)
      obtain ⟨p0, p1, pb, ps, _⟩ := put2 (u := .int .i64 s) (v := .slice A p.length c) HX3.out
      have HPB := Lib.hid (HB3.out.trans pb)
      have HEE := Lib.hid (HPL.out HGD.out)
      clear pb ps
      go_wp2
      exact bodyPost_ret (v := .tuple #[.agg #[.int .i64 s, .slice A p.length c], .int .i64 0]) (by simp [results, Tryd.f11, go_sem, p0, p1]) rfl ⟨HPB.out, .inl ⟨⟨s, l⟩, A, c, HW.out, HGD.out, by rw [HEE.out]; rfl, HWA.out⟩⟩
    · have HGD := Lib.hid (fun h => hg (HGT.out.2 h))
      clear hg
      obtain ⟨p0, p1, pb, ps, _⟩ := put2 (u := .int .i64 0) (v := .slice none 0 0) HX3.out
      have HPB := Lib.hid (HB3.out.trans pb)
      clear pb ps
      go_wp2
      exact bodyPost_ret (v := .tuple #[.agg #[.int .i64 0, .slice none 0 0], .int .i64 15]) (by simp [results, Tryd.f11, go_sem, p0, p1]) rfl ⟨HPB.out, .inr (.inl ⟨⟨s, l⟩, HW.out, HGD.out, rfl⟩)⟩
end Go.Proofs.YtoailhkaenofpaaDoor
