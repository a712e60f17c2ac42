/-
  The statement about any text parsed, walked.
-/
import Derived.Test.YtoailhkaenofpaaDoorWdN
import Derived.Test.YtoailhkaenofpaaDoorWdR
namespace Go.Proofs.YtoailhkaenofpaaDoor
open Go.RowKit

set_option maxRecDepth 100000 in
set_option maxHeartbeats 4000000 in
theorem worldParses_law (T : List UInt8) (hT : T.length ≤ 9223372036854775807) (w : World) (hX : TX w) :
    Calls Tryd.prog 4 #[.string (bs T)] w fun e w' => e = .returned (.bool true) ∧ Below w.heap.size w w' := by
  have hsz : (bs T).size = T.length := bs_size T
  have HAW := Lib.hid (fun W (hb : Below w.heap.size w W) => awake_calls W (hX.below hb (Nat.le_refl _)))
  have HX := Lib.hid (fun W (hb : Below w.heap.size w W) => hX.below hb (Nat.le_refl _))
  by_cases h3 : T.length ≤ 300
  · have d1 : decide ((300 : Int) < (T.length : Int)) = false := decide_eq_false (by omega)
    have d2 : decide (300 < T.length) = false := decide_eq_false (by omega)
    have HPC := Lib.hid (fun W (hb : Below w.heap.size w W) => parse_calls T (by omega) W (hX.below hb (Nat.le_refl _)))
    have HRC := Lib.hid (fun W => refParse_calls T (by omega) W)
    have HST : Hid (bs T = bs T) := Lib.hid rfl
    have hseq : ((bs T).toList == (bs T).toList) = true := by rw [str_eqC]; exact decide_eq_true rfl
    obtain ⟨S, hS⟩ : ∃ S, S = bs T := ⟨_, rfl⟩
    rw [← hS] at HPC HRC hseq hsz ⊢
    have HS := Lib.hid hS
    clear hX hS
    go_enter Tryd.func4, Tryd.ntmps4
    go_wp2_with fail
    refine (HAW.out _ (Below.refl _ _)).mono ?_
    rintro e w1 ⟨rfl, hB1⟩
    have HB1 := Lib.hid hB1
    clear hB1
    go_wp2_with fail
    refine (HPC.out _ HB1.out).mono ?_
    rintro e w2 ⟨hB2, h2⟩
    have HB2 := Lib.hid (HB1.out.trans (hB2.mono HB1.out.size))
    have hs2 : w.heap.size ≤ w2.heap.size := HB2.out.size
    clear hB2
    rcases h2 with ⟨m, A, c, hw, hg, rfl, hA⟩ | ⟨m, hw, hg, rfl⟩ | ⟨hw, rfl⟩
    · have HW := Lib.hid hw
      have HG := Lib.hid hg
      have HA := Lib.hid hA
      have HBL := Lib.hid ((Below.refl w2.heap.size w2).alloc (Nat.le_refl _) (.cells #[.int .i64 m.stp, .slice A m.ins.length c] 24))
      have HY3 := Lib.hid (heapOne w2 #[.int .i64 m.stp, .slice A m.ins.length c] 24)
      have HA3 := Lib.hid (hA.below HBL.out (Nat.le_refl _))
      have HTX : Hid (bs (txtW m) = S) := Lib.hid (by
        obtain ⟨m', e1, _, e2⟩ := txt_wOf hw
        injection e1 with e3 e4
        obtain ⟨ms, mi⟩ := m
        obtain ⟨ms', mi'⟩ := m'
        dsimp only at e3 e4
        subst e3 e4
        rw [HS.out, e2])
      unfold woV
      clear hw hg hA
      go_wp2_with fail
      generalize hW3 : w2.alloc (.cells #[.int .i64 m.stp, .slice A m.ins.length c] 24) = w3 at *
      have HB3 := Lib.hid (HB2.out.trans (HBL.out.mono hs2))
      refine (HRC.out _).mono ?_
      rintro e w4 ⟨hB4, h4⟩
      have HB4 := Lib.hid (HB3.out.trans (hB4.mono HB3.out.size))
      have HY4 := Lib.hid ((hB4.block _ (blkLt HY3.out)).trans HY3.out)
      have HA4 := Lib.hid (HA3.out.below hB4 (by rw [← hW3]; simp))
      have hlt4 : w2.heap.size < w4.heap.size := blkLt HY4.out
      clear hB4 hW3
      rw [HW.out] at h4
      rcases h4 with ⟨s, l, A5, c5, hw5, _, rfl, hA5⟩ | ⟨s, l, hw5, hg5, _⟩ | ⟨hw5, _⟩
      · have hw5 := Option.some.inj hw5
        injection hw5 with e1 e2
        subst e1 e2
        have x0 : w4.cell? ⟨w2.heap.size, 0, none⟩ = some (.int .i64 m.stp) := cellC HY4.out 0
        have x1 : w4.cell? ⟨w2.heap.size, 1, none⟩ = some (.slice A m.ins.length c) := cellC HY4.out 1
        have hl := HG.out.2
        have HIC := Lib.hid (ints_calls A A5 c c5 m.ins m.ins w2.heap.size w4.heap.size w4 HA4.out.row hA5 (by omega) (by omega))
        clear hA5 hl
        go_wp2_with fail
        refine HIC.out.mono ?_
        rintro e w6 ⟨hB6, h6⟩
        have HB6 := Lib.hid (HB4.out.trans (hB6.mono HB4.out.size))
        have HY6 := Lib.hid ((hB6.block _ hlt4).trans HY4.out)
        have HA6 := Lib.hid ((HA4.out.below hB6 (by omega)).wide (Nat.le_of_lt (blkLt HY6.out)))
        clear hB6 x0 x1
        rcases h6 with ⟨_, rfl⟩ | ⟨hn, _⟩
        rotate_left 1
        · exact absurd rfl hn
        have x0 : w6.cell? ⟨w2.heap.size, 0, none⟩ = some (.int .i64 m.stp) := cellC HY6.out 0
        have x1 : w6.cell? ⟨w2.heap.size, 1, none⟩ = some (.slice A m.ins.length c) := cellC HY6.out 1
        have HTC := Lib.hid (text_calls m A c w6 (HX.out _ HB6.out) HA6.out)
        unfold woV at HTC
        go_wp2_with fail
        refine HTC.out.mono ?_
        rintro e w7 ⟨hB7, h7⟩
        have HB7 := Lib.hid (HB6.out.trans (hB7.mono HB6.out.size))
        clear hB7
        rcases h7 with ⟨_, rfl⟩ | ⟨hn, _⟩
        rotate_left 1
        · exact absurd HG.out hn
        rw [HTX.out]
        go_wp2
        go_ret
        exact ⟨rfl, HB7.out⟩
      · exfalso
        have hw5 := Option.some.inj hw5
        injection hw5 with e1 e2
        subst e1 e2
        exact hg5 HG.out
      · cases hw5
    · have HW := Lib.hid hw
      have HG := Lib.hid hg
      have HBL := Lib.hid ((Below.refl w2.heap.size w2).alloc (Nat.le_refl _) (.cells #[.int .i64 0, .slice none 0 0] 24))
      have HY3 := Lib.hid (heapOne w2 #[.int .i64 0, .slice none 0 0] 24)
      clear hw hg
      go_wp2_with fail
      generalize hW3 : w2.alloc (.cells #[.int .i64 0, .slice none 0 0] 24) = w3 at *
      have HB3 := Lib.hid (HB2.out.trans (HBL.out.mono hs2))
      refine (HRC.out _).mono ?_
      rintro e w4 ⟨hB4, h4⟩
      have HB4 := Lib.hid (HB3.out.trans (hB4.mono HB3.out.size))
      have HY4 := Lib.hid ((hB4.block _ (blkLt HY3.out)).trans HY3.out)
      clear hB4 hW3
      rw [HW.out] at h4
      rcases h4 with ⟨s, l, A5, c5, hw5, hg5, _⟩ | ⟨s, l, hw5, _, rfl⟩ | ⟨hw5, _⟩
      · exfalso
        have hw5 := Option.some.inj hw5
        injection hw5 with e1 e2
        subst e1 e2
        exact HG.out hg5
      · have x0 : w4.cell? ⟨w2.heap.size, 0, none⟩ = some (.int .i64 0) := cellC HY4.out 0
        have x1 : w4.cell? ⟨w2.heap.size, 1, none⟩ = some (.slice none 0 0) := cellC HY4.out 1
        have HIC := Lib.hid (ints_calls none none 0 0 [] [] 0 0 w4 (fun h => absurd h (by simp)) (fun h => absurd h (by simp)) (by simp) (by simp))
        dsimp only [List.length_nil] at HIC
        clear hw5
        go_wp2_with fail
        refine HIC.out.mono ?_
        rintro e w6 ⟨hB6, h6⟩
        have HB6 := Lib.hid (HB4.out.trans (hB6.mono HB4.out.size))
        clear hB6 x0 x1
        rcases h6 with ⟨_, rfl⟩ | ⟨hn, _⟩
        rotate_left 1
        · exact absurd rfl hn
        go_wp2
        go_ret
        exact ⟨rfl, HB6.out⟩
      · cases hw5
    · have HW := Lib.hid hw
      have HBL := Lib.hid ((Below.refl w2.heap.size w2).alloc (Nat.le_refl _) (.cells #[.int .i64 0, .slice none 0 0] 24))
      have HY3 := Lib.hid (heapOne w2 #[.int .i64 0, .slice none 0 0] 24)
      clear hw
      go_wp2_with fail
      generalize hW3 : w2.alloc (.cells #[.int .i64 0, .slice none 0 0] 24) = w3 at *
      have HB3 := Lib.hid (HB2.out.trans (HBL.out.mono hs2))
      refine (HRC.out _).mono ?_
      rintro e w4 ⟨hB4, h4⟩
      have HB4 := Lib.hid (HB3.out.trans (hB4.mono HB3.out.size))
      have HY4 := Lib.hid ((hB4.block _ (blkLt HY3.out)).trans HY3.out)
      clear hB4 hW3
      rw [HW.out] at h4
      rcases h4 with ⟨s, l, A5, c5, hw5, _⟩ | ⟨s, l, hw5, _⟩ | ⟨_, rfl⟩
      · cases hw5
      · cases hw5
      · have x0 : w4.cell? ⟨w2.heap.size, 0, none⟩ = some (.int .i64 0) := cellC HY4.out 0
        have x1 : w4.cell? ⟨w2.heap.size, 1, none⟩ = some (.slice none 0 0) := cellC HY4.out 1
        have HIC := Lib.hid (ints_calls none none 0 0 [] [] 0 0 w4 (fun h => absurd h (by simp)) (fun h => absurd h (by simp)) (by simp) (by simp))
        dsimp only [List.length_nil] at HIC
        go_wp2_with fail
        refine HIC.out.mono ?_
        rintro e w6 ⟨hB6, h6⟩
        have HB6 := Lib.hid (HB4.out.trans (hB6.mono HB4.out.size))
        clear hB6 x0 x1
        rcases h6 with ⟨_, rfl⟩ | ⟨hn, _⟩
        rotate_left 1
        · exact absurd rfl hn
        go_wp2
        go_ret
        exact ⟨rfl, HB6.out⟩
  · have d1 : decide ((300 : Int) < (T.length : Int)) = true := decide_eq_true (by omega)
    have d2 : decide (300 < T.length) = true := decide_eq_true (by omega)
    generalize bs T = S at *
    clear h3
    go_enter Tryd.func4, Tryd.ntmps4
    go_wp2_with fail
    refine (HAW.out _ (Below.refl _ _)).mono ?_
    rintro e w1 ⟨rfl, hB1⟩
    have HB1 := Lib.hid hB1
    clear hB1
    go_wp2_with fail
    refine (HAW.out _ HB1.out).mono ?_
    rintro e w2 ⟨rfl, hB2⟩
    have HB2 := Lib.hid (HB1.out.trans (hB2.mono HB1.out.size))
    clear hB2
    go_wp2
    go_ret
    exact ⟨rfl, HB2.out⟩
theorem worldParses_at (a : ByteArray) (h : a.size ≤ 9223372036854775807) (w : World) (hX : TX w) :
    Calls Tryd.prog 4 #[.string a] w fun e w' => e = .returned (.bool true) ∧ Below w.heap.size w w' := by
  obtain ⟨l, rfl⟩ : ∃ l, a = bs l := ⟨a.data.toList, bs_eq.2 rfl⟩
  exact worldParses_law l (by rw [← bs_size l]; exact h) w hX
end Go.Proofs.YtoailhkaenofpaaDoor
