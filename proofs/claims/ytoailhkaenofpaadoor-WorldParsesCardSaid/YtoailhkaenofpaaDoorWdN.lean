/-
  The statement about worlds' texts, walked.
-/
import Derived.Test.YtoailhkaenofpaaDoorWdE
namespace Go.Proofs.YtoailhkaenofpaaDoor
open Go.RowKit

set_option maxRecDepth 100000 in
set_option maxHeartbeats 4000000 in
theorem worldTexts_law (m : WoM) (A : Option Addr) (c : Nat) (w : World) (h : WoAt w w.heap.size A c m) (hX : TX w) :
    Calls Tryd.prog 3 #[woV A c m] w fun e w' => e = .returned (.bool true) ∧ Below w.heap.size w w' := by
  have HW := Lib.hid h
  have HAW := Lib.hid (fun W (hb : Below w.heap.size w W) => awake_calls W (hX.below hb (Nat.le_refl _)))
  have HGC := Lib.hid (fun W => good_calls m A c W)
  have HTC := Lib.hid (fun W (hb : Below w.heap.size w W) => text_calls m A c W (hX.below hb (Nat.le_refl _)) ((h.below hb (Nat.le_refl _)).wide hb.size))
  have HPC := Lib.hid (fun (hl : m.ins.length ≤ 1000) W (hb : Below w.heap.size w W) => parse_calls (txtW m) (by have := txtW_len m h.fit; omega) W (hX.below hb (Nat.le_refl _)))
  have HRT := Lib.hid (fun (hl : m.ins.length ≤ 1000) W (hb : Below w.heap.size w W) => refText_calls m.stp A c m.ins w.heap.size W h.fit.1 h.fit.2 (by omega) (h.below hb (Nat.le_refl _)).row hb.size)
  have HB0 := Lib.hid ((Below.refl w.heap.size w).alloc (Nat.le_refl _) (.cells #[.int .i64 m.stp, .slice A m.ins.length c] 24))
  have HX0 := Lib.hid (heapOne w #[.int .i64 m.stp, .slice A m.ins.length c] 24)
  unfold woV at HGC HTC ⊢
  clear h hX
  go_enter Tryd.func3, Tryd.ntmps3
  go_wp2_with fail
  generalize w.alloc (.cells #[.int .i64 m.stp, .slice A m.ins.length c] 24) = W0 at *
  refine (HAW.out _ HB0.out).mono ?_
  rintro e w1 ⟨rfl, hB1⟩
  have HB1 := Lib.hid (HB0.out.trans (hB1.mono HB0.out.size))
  have HX1 := Lib.hid ((hB1.block _ (blkLt HX0.out)).trans HX0.out)
  clear hB1
  have x0 : w1.cell? ⟨w.heap.size, 0, none⟩ = some (.int .i64 m.stp) := cellC HX1.out 0
  have x1 : w1.cell? ⟨w.heap.size, 1, none⟩ = some (.slice A m.ins.length c) := cellC HX1.out 1
  by_cases h11 : m.ins.length ≤ 1100
  · have d1 : decide ((1100 : Int) < (m.ins.length : Int)) = false := decide_eq_false (by omega)
    have d2 : decide (1100 < m.ins.length) = false := decide_eq_false (by omega)
    by_cases hg : GoodW m
    · have HG := Lib.hid hg
      have a1 : decide (m.stp < 0) = false := decide_eq_false (by have := hg.1.1; omega)
      have a2 : decide ((100000 : Int) < m.stp) = false := decide_eq_false (by have := hg.1.2; omega)
      have a3 : decide ((1000 : Int) < (m.ins.length : Int)) = false := decide_eq_false (by have := hg.2; omega)
      have a4 : decide (1000 < m.ins.length) = false := decide_eq_false (by have := hg.2; omega)
      have hl := hg.2
      clear hg h11
      go_wp2_with fail
      refine (HTC.out _ HB1.out).mono ?_
      rintro e w2 ⟨hB2, h2⟩
      have HB2 := Lib.hid (HB1.out.trans (hB2.mono HB1.out.size))
      have HX2 := Lib.hid ((hB2.block _ (blkLt HX1.out)).trans HX1.out)
      clear hB2
      rcases h2 with ⟨_, rfl⟩ | ⟨hn, _⟩
      rotate_left 1
      · exact absurd HG.out hn
      have HPC2 := Lib.hid (HPC.out hl)
      have HRT2 := Lib.hid (HRT.out hl)
      have HWO := Lib.hid (wOf_txt m HW.out.fit)
      generalize txtW m = T at *
      clear x0 x1
      go_wp2_with fail
      refine (HPC2.out _ HB2.out).mono ?_
      rintro e w3 ⟨hB3, h3⟩
      have HB3 := Lib.hid (HB2.out.trans (hB3.mono HB2.out.size))
      have HX3 := Lib.hid ((hB3.block _ (blkLt HX2.out)).trans HX2.out)
      clear hB3
      rw [HWO.out] at h3
      rcases h3 with ⟨⟨ms, mi⟩, A3, c3, hm, _, rfl, hA3⟩ | ⟨⟨ms, mi⟩, hm, hg3, _⟩ | ⟨hm, _⟩
      · have hm := Option.some.inj hm
        injection hm with e1 e2
        dsimp only at e1 e2
        subst e1 e2
        have HA3 := Lib.hid hA3
        have hlt3 : w.heap.size < w3.heap.size := blkLt HX3.out
        unfold woV
        dsimp only
        have z0 : w3.cell? ⟨w.heap.size, 0, none⟩ = some (.int .i64 m.stp) := cellC HX3.out 0
        have z1 : w3.cell? ⟨w.heap.size, 1, none⟩ = some (.slice A m.ins.length c) := cellC HX3.out 1
        have z0' := fun o => newC z0 o
        have z1' := fun o => newC z1 o
        clear hA3 z0 z1
        have HBL := Lib.hid ((Below.refl w3.heap.size w3).alloc (Nat.le_refl _) (.cells #[.int .i64 m.stp, .slice A3 m.ins.length c3] 24))
        have HY4 := Lib.hid (heapOne w3 #[.int .i64 m.stp, .slice A3 m.ins.length c3] 24)
        have HX4 := Lib.hid ((HBL.out.block _ hlt3).trans HX3.out)
        go_wp2_with fail
        generalize hW4 : w3.alloc (.cells #[.int .i64 m.stp, .slice A3 m.ins.length c3] 24) = w4 at *
        have HB4 := Lib.hid (HB3.out.trans (HBL.out.mono (by omega)))
        refine (HGC.out _).mono ?_
        rintro e w5 ⟨hB5, h5⟩
        have HB5 := Lib.hid (HB4.out.trans (hB5.mono HB4.out.size))
        have HX5 := Lib.hid ((hB5.block _ (blkLt HX4.out)).trans HX4.out)
        have HY5 := Lib.hid ((hB5.block _ (blkLt HY4.out)).trans HY4.out)
        have HA5 := Lib.hid ((HA3.out.below HBL.out (Nat.le_refl _)).below hB5 (by rw [← hW4]; simp))
        clear hB5 hW4 z0' z1'
        rcases h5 with ⟨_, rfl⟩ | ⟨hn, _⟩
        rotate_left 1
        · exact absurd HG.out hn
        have z0 : w5.cell? ⟨w.heap.size, 0, none⟩ = some (.int .i64 m.stp) := cellC HX5.out 0
        have z1 : w5.cell? ⟨w.heap.size, 1, none⟩ = some (.slice A m.ins.length c) := cellC HX5.out 1
        go_wp2_with fail
        refine (HRT2.out _ HB5.out).mono ?_
        rintro e w6 ⟨rfl, hB6⟩
        have HB6 := Lib.hid (HB5.out.trans (hB6.mono HB5.out.size))
        have HX6 := Lib.hid ((hB6.block _ (blkLt HX5.out)).trans HX5.out)
        have HY6 := Lib.hid ((hB6.block _ (blkLt HY5.out)).trans HY5.out)
        have HA6 := Lib.hid (HA5.out.below hB6 (by have := blkLt HY5.out; omega))
        clear hB6 z0 z1
        have z0 : w6.cell? ⟨w.heap.size, 0, none⟩ = some (.int .i64 m.stp) := cellC HX6.out 0
        have z1 : w6.cell? ⟨w.heap.size, 1, none⟩ = some (.slice A m.ins.length c) := cellC HX6.out 1
        have y0 : w6.cell? ⟨w3.heap.size, 0, none⟩ = some (.int .i64 m.stp) := cellC HY6.out 0
        have y1 : w6.cell? ⟨w3.heap.size, 1, none⟩ = some (.slice A3 m.ins.length c3) := cellC HY6.out 1
        have hseq : ((bs T).toList == (bs T).toList) = true := by rw [str_eqC]; exact decide_eq_true rfl
        have HIC := Lib.hid (ints_calls A3 A c3 c m.ins m.ins w3.heap.size w.heap.size w6 HA6.out.row (HW.out.below HB6.out (Nat.le_refl _)).row (by omega) (by omega))
        go_wp2_with fail
        refine HIC.out.mono ?_
        rintro e w7 ⟨hB7, h7⟩
        have HB7 := Lib.hid (HB6.out.trans (hB7.mono HB6.out.size))
        clear hB7 z0 z1 y0 y1
        rcases h7 with ⟨_, rfl⟩ | ⟨hn, _⟩
        rotate_left 1
        · exact absurd rfl hn
        go_wp2
        go_ret
        exact ⟨rfl, HB7.out⟩
      · exfalso
        have hm := Option.some.inj hm
        injection hm with e1 e2
        dsimp only at e1 e2
        subst e1 e2
        exact hg3 HG.out
      · cases hm
    · have HNG := Lib.hid hg
      have hcases : (decide (m.stp < 0) = true) ∨ (decide (m.stp < 0) = false ∧ decide ((100000 : Int) < m.stp) = true) ∨ (decide (m.stp < 0) = false ∧ decide ((100000 : Int) < m.stp) = false ∧ decide ((1000 : Int) < (m.ins.length : Int)) = true ∧ decide (1000 < m.ins.length) = true) := by
        by_cases h0 : m.stp < 0
        · exact .inl (decide_eq_true h0)
        · by_cases h1 : 100000 < m.stp
          · exact .inr (.inl ⟨decide_eq_false h0, decide_eq_true h1⟩)
          · have h2 : 1000 < m.ins.length := by
              rcases Nat.lt_or_ge 1000 m.ins.length with h | h
              · exact h
              · exact absurd ⟨⟨by omega, by omega⟩, h⟩ hg
            exact .inr (.inr ⟨decide_eq_false h0, decide_eq_false h1, decide_eq_true (by omega), decide_eq_true h2⟩)
      have HGC1 := Lib.hid (HGC.out)
      clear hg h11
      have hemp : ((bs []).toList == []) = true := by rw [ByteArray.toList_eq, bs_toList]; rfl
      rcases hcases with a1 | ⟨a1, a2⟩ | ⟨a1, a2, a3, a4⟩
      all_goals
        go_wp2_with fail
        refine (HGC.out _).mono ?_
        rintro e w2 ⟨hB2, h2⟩
        have HB2 := Lib.hid (HB1.out.trans (hB2.mono HB1.out.size))
        have HX2 := Lib.hid ((hB2.block _ (blkLt HX1.out)).trans HX1.out)
        clear hB2
        rcases h2 with ⟨hn, _⟩ | ⟨_, rfl⟩
        · exact absurd hn HNG.out
        have z0 : w2.cell? ⟨w.heap.size, 0, none⟩ = some (.int .i64 m.stp) := cellC HX2.out 0
        have z1 : w2.cell? ⟨w.heap.size, 1, none⟩ = some (.slice A m.ins.length c) := cellC HX2.out 1
        clear x0 x1
        go_wp2_with fail
        refine (HTC.out _ HB2.out).mono ?_
        rintro e w3 ⟨hB3, h3⟩
        have HB3 := Lib.hid (HB2.out.trans (hB3.mono HB2.out.size))
        clear hB3
        rcases h3 with ⟨hn, _⟩ | ⟨_, rfl⟩
        · exact absurd hn HNG.out
        go_wp2
        go_ret
        exact ⟨rfl, HB3.out⟩
  · have d1 : decide ((1100 : Int) < (m.ins.length : Int)) = true := decide_eq_true (by omega)
    have d2 : decide (1100 < m.ins.length) = true := decide_eq_true (by omega)
    clear h11
    go_wp2_with fail
    refine (HAW.out _ HB1.out).mono ?_
    rintro e w2 ⟨rfl, hB2⟩
    have HB2 := Lib.hid (HB1.out.trans (hB2.mono HB1.out.size))
    clear hB2
    go_wp2
    go_ret
    exact ⟨rfl, HB2.out⟩
end Go.Proofs.YtoailhkaenofpaaDoor
