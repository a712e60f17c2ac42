/-
  The statement about unlike worlds, walked.
-/
import Derived.Test.YtoailhkaenofpaaDoorWdE
import Derived.Deep.RegionHeld3
import Derived.BigRegion
import Derived.Deep.Cut
import Derived.Deep.RegionWith
namespace Go.Proofs.YtoailhkaenofpaaDoor
open Go.RowKit

set_option maxRecDepth 100000 in
set_option maxHeartbeats 4000000 in
theorem worldOthers_law (m n : WoM) (A B : Option Addr) (c d : Nat) (w : World) (h : WoAt w w.heap.size A c m) (k : WoAt w w.heap.size B d n) (hX : TX w) :
    Calls Tryd.prog 6 #[woV A c m, woV B d n] w fun e w' => e = .returned (.bool true) ∧ Below w.heap.size w w' := by
  have HW := Lib.hid h
  have HV := Lib.hid k
  have HAW := Lib.hid (fun W (hb : Below w.heap.size w W) => awake_calls W (hX.below hb (Nat.le_refl _)))
  have HGC := Lib.hid (fun W => good_calls m A c W)
  have HGD := Lib.hid (fun W => good_calls n B d W)
  have HTC := Lib.hid (fun W (hb : Below w.heap.size w W) => text_calls m A c W (hX.below hb (Nat.le_refl _)) ((h.below hb (Nat.le_refl _)).wide hb.size))
  have HTD := Lib.hid (fun W (hb : Below w.heap.size w W) => text_calls n B d W (hX.below hb (Nat.le_refl _)) ((k.below hb (Nat.le_refl _)).wide hb.size))
  have HIC := Lib.hid (fun (hl : m.ins.length ≤ 100) (hl2 : n.ins.length ≤ 100) W (hb : Below w.heap.size w W) => ints_calls A B c d m.ins n.ins w.heap.size w.heap.size W (h.below hb (Nat.le_refl _)).row (k.below hb (Nat.le_refl _)).row (by omega) (by omega))
  have HINJ := Lib.hid (fun e => txtW_inj h.fit k.fit e)
  have HB0 := Lib.hid (((Below.refl w.heap.size w).alloc (Nat.le_refl _) (.cells #[.int .i64 m.stp, .slice A m.ins.length c] 24)).alloc (by simp) (.cells #[.int .i64 n.stp, .slice B n.ins.length d] 24))
  have HY0 : Hid (((w.alloc (.cells #[.int .i64 m.stp, .slice A m.ins.length c] 24)).alloc (.cells #[.int .i64 n.stp, .slice B n.ins.length d] 24)).heap[w.heap.size + 1]? = some (.cells #[.int .i64 n.stp, .slice B n.ins.length d] 24 (0, 0))) := Lib.hid (by
    have := heapOne (w.alloc (.cells #[.int .i64 m.stp, .slice A m.ins.length c] 24)) #[.int .i64 n.stp, .slice B n.ins.length d] 24
    rw [World.size_alloc] at this
    exact this)
  have HX0 := Lib.hid ((Below.heap_alloc (w.alloc (.cells #[.int .i64 m.stp, .slice A m.ins.length c] 24)) (.cells #[.int .i64 n.stp, .slice B n.ins.length d] 24) _ (by simp)).trans (heapOne w #[.int .i64 m.stp, .slice A m.ins.length c] 24))
  unfold woV at HGC HTC HGD HTD ⊢
  clear h k hX
  go_enter Tryd.func6, Tryd.ntmps6
  go_wp2_with fail
  generalize (w.alloc (.cells #[.int .i64 m.stp, .slice A m.ins.length c] 24)).alloc (.cells #[.int .i64 n.stp, .slice B n.ins.length d] 24) = W0 at *
  refine (HAW.out _ HB0.out).mono ?_
  rintro e w1 ⟨rfl, hB1⟩
  have HB1 := Lib.hid (HB0.out.trans (hB1.mono HB0.out.size))
  have HX1 := Lib.hid ((hB1.block _ (blkLt HX0.out)).trans HX0.out)
  have HY1 := Lib.hid ((hB1.block _ (blkLt HY0.out)).trans HY0.out)
  clear hB1
  have x0 : w1.cell? ⟨w.heap.size, 0, none⟩ = some (.int .i64 m.stp) := cellC HX1.out 0
  have x1 : w1.cell? ⟨w.heap.size, 1, none⟩ = some (.slice A m.ins.length c) := cellC HX1.out 1
  have y0 : w1.cell? ⟨w.heap.size + 1, 0, none⟩ = some (.int .i64 n.stp) := cellC HY1.out 0
  have y1 : w1.cell? ⟨w.heap.size + 1, 1, none⟩ = some (.slice B n.ins.length d) := cellC HY1.out 1
  by_cases h1 : m.ins.length ≤ 100
  · have d1 : decide ((100 : Int) < (m.ins.length : Int)) = false := decide_eq_false (by omega)
    have d2 : decide (100 < m.ins.length) = false := decide_eq_false (by omega)
    by_cases h2 : n.ins.length ≤ 100
    · have d3 : decide ((100 : Int) < (n.ins.length : Int)) = false := decide_eq_false (by omega)
      have d4 : decide (100 < n.ins.length) = false := decide_eq_false (by omega)
      have HIC2 := Lib.hid (HIC.out h1 h2)
      clear h1 h2 HIC
      go_wp2_with fail
      refine (HGC.out _).mono ?_
      rintro e w2 ⟨hB2, h2⟩
      have HB2 := Lib.hid (HB1.out.trans (hB2.mono HB1.out.size))
      have HX2 := Lib.hid ((hB2.block _ (blkLt HX1.out)).trans HX1.out)
      have HY2 := Lib.hid ((hB2.block _ (blkLt HY1.out)).trans HY1.out)
      clear hB2 x0 x1 y0 y1
      have x0 : w2.cell? ⟨w.heap.size, 0, none⟩ = some (.int .i64 m.stp) := cellC HX2.out 0
      have x1 : w2.cell? ⟨w.heap.size, 1, none⟩ = some (.slice A m.ins.length c) := cellC HX2.out 1
      have y0 : w2.cell? ⟨w.heap.size + 1, 0, none⟩ = some (.int .i64 n.stp) := cellC HY2.out 0
      have y1 : w2.cell? ⟨w.heap.size + 1, 1, none⟩ = some (.slice B n.ins.length d) := cellC HY2.out 1
      rcases h2 with ⟨hg, rfl⟩ | ⟨hg, rfl⟩
      · have HG := Lib.hid hg
        clear hg
        go_wp2_with fail
        refine (HGD.out _).mono ?_
        rintro e w3 ⟨hB3, h3⟩
        have HB3 := Lib.hid (HB2.out.trans (hB3.mono HB2.out.size))
        have HX3 := Lib.hid ((hB3.block _ (blkLt HX2.out)).trans HX2.out)
        have HY3 := Lib.hid ((hB3.block _ (blkLt HY2.out)).trans HY2.out)
        clear hB3 x0 x1 y0 y1
        rcases h3 with ⟨hg, rfl⟩ | ⟨hg, rfl⟩
        · have HH := Lib.hid hg
          clear hg
          have HT1 := Lib.hid (show ∀ W, Below w.heap.size w W → Calls Tryd.prog 10 #[.agg #[.int .i64 m.stp, .slice A m.ins.length c]] W fun e w' => e = .returned (.string (bs (txtW m))) ∧ Below W.heap.size W w' from fun W hb => (HTC.out W hb).mono fun e w' hp => ⟨by rcases hp.2 with ⟨_, h⟩ | ⟨h, _⟩; exact h; exact absurd HG.out h, hp.1⟩)
          have HT2 := Lib.hid (show ∀ W, Below w.heap.size w W → Calls Tryd.prog 10 #[.agg #[.int .i64 n.stp, .slice B n.ins.length d]] W fun e w' => e = .returned (.string (bs (txtW n))) ∧ Below W.heap.size W w' from fun W hb => (HTD.out W hb).mono fun e w' hp => ⟨by rcases hp.2 with ⟨_, h⟩ | ⟨h, _⟩; exact h; exact absurd HH.out h, hp.1⟩)
          have hcmp := str_eqC (a := txtW m) (b := txtW n)
          have hcs : (m.stp = n.stp ∧ m.ins = n.ins ∧ txtW m = txtW n) ∨ (m.stp = n.stp ∧ m.ins ≠ n.ins ∧ txtW m ≠ txtW n) ∨ (m.stp ≠ n.stp ∧ txtW m ≠ txtW n) := by
            by_cases e1 : m.stp = n.stp
            · by_cases e2 : m.ins = n.ins
              · refine .inl ⟨e1, e2, ?_⟩
                have : m = n := by cases m; cases n; simp only at e1 e2; rw [e1, e2]
                rw [this]
              · exact .inr (.inl ⟨e1, e2, fun e => e2 (HINJ.out e).2⟩)
            · exact .inr (.inr ⟨e1, fun e => e1 (HINJ.out e).1⟩)
          go_upto_region 3 with (fail)
          clear HTC HTD HINJ
          generalize hTA : txtW m = TA at *
          generalize hTB : txtW n = TB at *
          have x0 : w3.drew.cell? ⟨w.heap.size, 0, none⟩ = some (.int .i64 m.stp) := cellC HX3.out 0
          have x1 : w3.drew.cell? ⟨w.heap.size, 1, none⟩ = some (.slice A m.ins.length c) := cellC HX3.out 1
          have y0 : w3.drew.cell? ⟨w.heap.size + 1, 0, none⟩ = some (.int .i64 n.stp) := cellC HY3.out 0
          have y1 : w3.drew.cell? ⟨w.heap.size + 1, 1, none⟩ = some (.slice B n.ins.length d) := cellC HY3.out 1
          have HK : Hid (Below w.heap.size w w3.drew) := Lib.hid (below_drewC HB3.out 1)
          have HQ : Hid (w3.drew.heap[w.heap.size]? = some (.cells #[.int .i64 m.stp, .slice A m.ins.length c] 24 (0, 0))) := Lib.hid HX3.out
          have HR : Hid (w3.drew.heap[w.heap.size + 1]? = some (.cells #[.int .i64 n.stp, .slice B n.ins.length d] 24 (0, 0))) := Lib.hid HY3.out
          clear hTA hTB
          rcases hcs with ⟨e1, e2, e3⟩ | ⟨e1, e2, e3⟩ | ⟨e1, e3⟩
          · have b1 : ((bs TA).toList == (bs TB).toList) = true := by rw [hcmp]; exact decide_eq_true e3
            have b2 : (m.stp == n.stp) = true := beq_iff_eq.2 e1
            have HI2 := Lib.hid (show ∀ W, Below w.heap.size w W → Calls Tryd.prog 13 #[.slice A m.ins.length c, .slice B n.ins.length d] W fun e w' => e = .returned (.bool true) ∧ Below W.heap.size W w' from fun W hb => (HIC2.out W hb).mono fun e w' hp => ⟨by rcases hp.2 with ⟨_, h⟩ | ⟨h, _⟩; exact h; exact absurd e2 h, hp.1⟩)
            clear hcmp e1 e2 e3
            generalize m.stp = sa at *
            generalize n.stp = sb at *
            generalize m.ins.length = la at *
            generalize n.ins.length = lb at *
            go_region_held3 (fun w' => w'.cell? ⟨w.heap.size, 0, none⟩ = some (.int .i64 sa) ∧ w'.cell? ⟨w.heap.size, 1, none⟩ = some (.slice A la c) ∧ w'.cell? ⟨w.heap.size + 1, 0, none⟩ = some (.int .i64 sb) ∧ w'.cell? ⟨w.heap.size + 1, 1, none⟩ = some (.slice B lb d))
              (with_reducible exact ⟨x0, x1, y0, y1⟩)
              (first | (go_at_call 10; ((first | (with_reducible refine (HT1.out _ HK.out).mono ?_) | (with_reducible refine (HT2.out _ HK.out).mono ?_)); rintro e w5 ⟨rfl, hb⟩; have HQ := Lib.hid ((hb.block _ (blkLt HQ.out)).trans HQ.out); have HR := Lib.hid ((hb.block _ (blkLt HR.out)).trans HR.out); have HK := Lib.hid (HK.out.trans (hb.mono HK.out.size)); have x0 : w5.cell? ⟨w.heap.size, 0, none⟩ = some (.int .i64 sa) := cellC HQ.out 0; have x1 : w5.cell? ⟨w.heap.size, 1, none⟩ = some (.slice A la c) := cellC HQ.out 1; have y0 : w5.cell? ⟨w.heap.size + 1, 0, none⟩ = some (.int .i64 sb) := cellC HR.out 0; have y1 : w5.cell? ⟨w.heap.size + 1, 1, none⟩ = some (.slice B lb d) := cellC HR.out 1; clear hb)) | (go_at_call 13; ((with_reducible refine (HI2.out _ HK.out).mono ?_); rintro e w5 ⟨rfl, hb⟩; have HQ := Lib.hid ((hb.block _ (blkLt HQ.out)).trans HQ.out); have HR := Lib.hid ((hb.block _ (blkLt HR.out)).trans HR.out); have HK := Lib.hid (HK.out.trans (hb.mono HK.out.size)); have x0 : w5.cell? ⟨w.heap.size, 0, none⟩ = some (.int .i64 sa) := cellC HQ.out 0; have x1 : w5.cell? ⟨w.heap.size, 1, none⟩ = some (.slice A la c) := cellC HQ.out 1; have y0 : w5.cell? ⟨w.heap.size + 1, 0, none⟩ = some (.int .i64 sb) := cellC HR.out 0; have y1 : w5.cell? ⟨w.heap.size + 1, 1, none⟩ = some (.slice B lb d) := cellC HR.out 1; clear hb)))
            go_wp2
            go_ret
            exact ⟨rfl, HK.out⟩
          · have b1 : ((bs TA).toList == (bs TB).toList) = false := by rw [hcmp]; exact decide_eq_false e3
            have b2 : (m.stp == n.stp) = true := beq_iff_eq.2 e1
            have HI2 := Lib.hid (show ∀ W, Below w.heap.size w W → Calls Tryd.prog 13 #[.slice A m.ins.length c, .slice B n.ins.length d] W fun e w' => e = .returned (.bool false) ∧ Below W.heap.size W w' from fun W hb => (HIC2.out W hb).mono fun e w' hp => ⟨by rcases hp.2 with ⟨h, _⟩ | ⟨_, h⟩; exact absurd h e2; exact h, hp.1⟩)
            clear hcmp e1 e2 e3
            generalize m.stp = sa at *
            generalize n.stp = sb at *
            generalize m.ins.length = la at *
            generalize n.ins.length = lb at *
            go_region_held3 (fun w' => w'.cell? ⟨w.heap.size, 0, none⟩ = some (.int .i64 sa) ∧ w'.cell? ⟨w.heap.size, 1, none⟩ = some (.slice A la c) ∧ w'.cell? ⟨w.heap.size + 1, 0, none⟩ = some (.int .i64 sb) ∧ w'.cell? ⟨w.heap.size + 1, 1, none⟩ = some (.slice B lb d))
              (with_reducible exact ⟨x0, x1, y0, y1⟩)
              (first | (go_at_call 10; ((first | (with_reducible refine (HT1.out _ HK.out).mono ?_) | (with_reducible refine (HT2.out _ HK.out).mono ?_)); rintro e w5 ⟨rfl, hb⟩; have HQ := Lib.hid ((hb.block _ (blkLt HQ.out)).trans HQ.out); have HR := Lib.hid ((hb.block _ (blkLt HR.out)).trans HR.out); have HK := Lib.hid (HK.out.trans (hb.mono HK.out.size)); have x0 : w5.cell? ⟨w.heap.size, 0, none⟩ = some (.int .i64 sa) := cellC HQ.out 0; have x1 : w5.cell? ⟨w.heap.size, 1, none⟩ = some (.slice A la c) := cellC HQ.out 1; have y0 : w5.cell? ⟨w.heap.size + 1, 0, none⟩ = some (.int .i64 sb) := cellC HR.out 0; have y1 : w5.cell? ⟨w.heap.size + 1, 1, none⟩ = some (.slice B lb d) := cellC HR.out 1; clear hb)) | (go_at_call 13; ((with_reducible refine (HI2.out _ HK.out).mono ?_); rintro e w5 ⟨rfl, hb⟩; have HQ := Lib.hid ((hb.block _ (blkLt HQ.out)).trans HQ.out); have HR := Lib.hid ((hb.block _ (blkLt HR.out)).trans HR.out); have HK := Lib.hid (HK.out.trans (hb.mono HK.out.size)); have x0 : w5.cell? ⟨w.heap.size, 0, none⟩ = some (.int .i64 sa) := cellC HQ.out 0; have x1 : w5.cell? ⟨w.heap.size, 1, none⟩ = some (.slice A la c) := cellC HQ.out 1; have y0 : w5.cell? ⟨w.heap.size + 1, 0, none⟩ = some (.int .i64 sb) := cellC HR.out 0; have y1 : w5.cell? ⟨w.heap.size + 1, 1, none⟩ = some (.slice B lb d) := cellC HR.out 1; clear hb)))
            go_wp2
            go_ret
            exact ⟨rfl, HK.out⟩
          · have b1 : ((bs TA).toList == (bs TB).toList) = false := by rw [hcmp]; exact decide_eq_false e3
            have b2 : (m.stp == n.stp) = false := beq_eq_false_iff_ne.2 e1
            clear hcmp e1 e3
            generalize m.stp = sa at *
            generalize n.stp = sb at *
            generalize m.ins.length = la at *
            generalize n.ins.length = lb at *
            refine wp_region_held_drew (S := fun w' => w'.cell? ⟨w.heap.size, 0, none⟩ = some (.int .i64 sa) ∧ w'.cell? ⟨w.heap.size, 1, none⟩ = some (.slice A la c) ∧ w'.cell? ⟨w.heap.size + 1, 0, none⟩ = some (.int .i64 sb) ∧ w'.cell? ⟨w.heap.size + 1, 1, none⟩ = some (.slice B lb d)) (by kernel_rfl) ⟨x0, x1, y0, y1⟩ (fun hHeld => ?_)
            refine wpAnyH_take (i := 0) (oi := ⟨some 30, _, _, _, _, _⟩) rfl (by kernel_rfl) (by kernel_rfl) (by kernel_rfl) (fun _ _ _ h => h) (v := ?v0) (Or.inl ⟨by rfl, ?y0⟩) (by assumption) ?r0
            case y0 => (intro w hSw; (try dsimp only at hSw); go_simp; (try with_reducible rfl))
            simp only [Act.put, List.setIfInBounds_toArray, List.set_cons_zero, List.set_cons_succ]
            refine wpAnyH_take (i := 2) (oi := ⟨some 32, _, _, _, _, _⟩) rfl (by kernel_rfl) (by kernel_rfl) (by kernel_rfl) (fun _ _ _ h => h) (v := ?v2) (Or.inl ⟨by rfl, ?y2⟩) (by assumption) ?r2
            case y2 => (intro w hSw; (try dsimp only at hSw); go_simp; (try with_reducible rfl))
            simp only [Act.put, List.setIfInBounds_toArray, List.set_cons_zero, List.set_cons_succ]
            refine wpAnyH_take (i := 5) (oi := ⟨some 35, _, _, _, _, _⟩) rfl (by kernel_rfl) (by kernel_rfl) (by kernel_rfl) (fun _ _ _ h => h) (v := ?v5) (Or.inl ⟨by rfl, ?y5⟩) (by assumption) ?r5
            case y5 => (intro w hSw; (try dsimp only at hSw); go_simp; (try with_reducible rfl))
            simp only [Act.put, List.setIfInBounds_toArray, List.set_cons_zero, List.set_cons_succ]
            refine wpAnyH_take (i := 6) (oi := ⟨some 36, _, _, _, _, _⟩) rfl (by kernel_rfl) (by kernel_rfl) (by kernel_rfl) (fun _ _ _ h => h) (v := ?v6) (Or.inl ⟨by rfl, ?y6⟩) (by assumption) ?r6
            case y6 => (intro w hSw; (try dsimp only at hSw); go_simp; (try with_reducible rfl))
            simp only [Act.put, List.setIfInBounds_toArray, List.set_cons_zero, List.set_cons_succ]
            refine wpAnyH_take (i := 7) (oi := ⟨some 37, _, _, _, _, _⟩) rfl (by kernel_rfl) (by kernel_rfl) (by kernel_rfl) (fun _ _ _ h => h) (v := ?v7) (Or.inl ⟨by rfl, ?y7⟩) (by assumption) ?r7
            case y7 => (intro w hSw; (try dsimp only at hSw); go_simp; (try with_reducible rfl))
            simp only [Act.put, List.setIfInBounds_toArray, List.set_cons_zero, List.set_cons_succ]
            refine wpAnyH_take (i := 8) (oi := ⟨some 38, _, _, _, _, _⟩) rfl (by kernel_rfl) (by kernel_rfl) (by kernel_rfl) (fun _ _ _ h => h) (v := ?v8) (Or.inl ⟨by rfl, ?y8⟩) (by assumption) ?r8
            case y8 => (intro w hSw; (try dsimp only at hSw); go_simp; (try with_reducible rfl))
            simp only [Act.put, List.setIfInBounds_toArray, List.set_cons_zero, List.set_cons_succ]
            refine wpAnyH_take (i := 9) (oi := ⟨some 39, _, _, _, _, _⟩) rfl (by kernel_rfl) (by kernel_rfl) (by kernel_rfl) (fun _ _ _ h => h) (v := ?v9) (Or.inl ⟨by rfl, ?y9⟩) (by assumption) ?r9
            case y9 => (intro w hSw; (try dsimp only at hSw); go_simp; (try with_reducible rfl))
            simp only [Act.put, List.setIfInBounds_toArray, List.set_cons_zero, List.set_cons_succ]
            refine wpAnyH_ready (rs := [1]) (by kernel_rfl) (by simp) ?_
            refine AllReadyH.cons rfl (fun K hK => ?_) AllReadyH.nil
            go_simp
            refine (HT1.out _ HK.out).mono ?_
            rintro e w5 ⟨rfl, hb⟩
            have HQ := Lib.hid ((hb.block _ (blkLt HQ.out)).trans HQ.out)
            have HR := Lib.hid ((hb.block _ (blkLt HR.out)).trans HR.out)
            have HK := Lib.hid (HK.out.trans (hb.mono HK.out.size))
            have x0 : w5.cell? ⟨w.heap.size, 0, none⟩ = some (.int .i64 sa) := cellC HQ.out 0
            have x1 : w5.cell? ⟨w.heap.size, 1, none⟩ = some (.slice A la c) := cellC HQ.out 1
            have y0 : w5.cell? ⟨w.heap.size + 1, 0, none⟩ = some (.int .i64 sb) := cellC HR.out 0
            have y1 : w5.cell? ⟨w.heap.size + 1, 1, none⟩ = some (.slice B lb d) := cellC HR.out 1
            clear hb hHeld
            go_simp
            refine hK.out _ _ ⟨x0, x1, y0, y1⟩ (fun hHeld => ?_)
            clear hK K
            try simp only [Act.put, List.setIfInBounds_toArray, List.set_cons_zero, List.set_cons_succ]
            refine wpAnyH_ready (rs := [3]) (by kernel_rfl) (by simp) ?_
            refine AllReadyH.cons rfl (fun K hK => ?_) AllReadyH.nil
            go_simp
            refine (HT2.out _ HK.out).mono ?_
            rintro e w5 ⟨rfl, hb⟩
            have HQ := Lib.hid ((hb.block _ (blkLt HQ.out)).trans HQ.out)
            have HR := Lib.hid ((hb.block _ (blkLt HR.out)).trans HR.out)
            have HK := Lib.hid (HK.out.trans (hb.mono HK.out.size))
            have x0 : w5.cell? ⟨w.heap.size, 0, none⟩ = some (.int .i64 sa) := cellC HQ.out 0
            have x1 : w5.cell? ⟨w.heap.size, 1, none⟩ = some (.slice A la c) := cellC HQ.out 1
            have y0 : w5.cell? ⟨w.heap.size + 1, 0, none⟩ = some (.int .i64 sb) := cellC HR.out 0
            have y1 : w5.cell? ⟨w.heap.size + 1, 1, none⟩ = some (.slice B lb d) := cellC HR.out 1
            clear hb hHeld
            go_simp
            refine hK.out _ _ ⟨x0, x1, y0, y1⟩ (fun hHeld => ?_)
            clear hK K
            try simp only [Act.put, List.setIfInBounds_toArray, List.set_cons_zero, List.set_cons_succ]
            refine wpAnyH_take (i := 4) (oi := ⟨some 34, _, _, _, _, _⟩) rfl (by kernel_rfl) (by kernel_rfl) (by kernel_rfl) (fun _ _ _ h => h) (v := ?v4) (Or.inl ⟨by rfl, ?y4⟩) (by assumption) ?r4
            case y4 => (intro w hSw; (try dsimp only at hSw); go_simp; (try with_reducible rfl))
            simp only [Act.put, List.setIfInBounds_toArray, List.set_cons_zero, List.set_cons_succ]
            refine wpAnyH_take (i := 10) (oi := ⟨some 40, _, _, _, _, _⟩) rfl (by kernel_rfl) (by kernel_rfl) (by kernel_rfl) (fun _ _ _ h => h) (v := ?v10) (Or.inl ⟨by rfl, ?y10⟩) (by assumption) ?r10
            case y10 => (intro w hSw; (try dsimp only at hSw); go_simp; (try with_reducible rfl))
            simp only [Act.put, List.setIfInBounds_toArray, List.set_cons_zero, List.set_cons_succ]
            refine wpAnyH_take (i := 11) (oi := ⟨some 41, _, _, _, _, _⟩) (v := undef) rfl (by kernel_rfl) (by kernel_rfl) (by kernel_rfl) (fun _ _ _ h => h) (Or.inr ⟨by rfl, rfl⟩) (by assumption) ?_
            simp only [Act.put, List.setIfInBounds_toArray, List.set_cons_zero, List.set_cons_succ]
            refine wpAnyH_take (i := 12) (oi := ⟨some 42, _, _, _, _, _⟩) (v := undef) rfl (by kernel_rfl) (by kernel_rfl) (by kernel_rfl) (fun _ _ _ h => h) (Or.inr ⟨by rfl, rfl⟩) (by assumption) ?_
            simp only [Act.put, List.setIfInBounds_toArray, List.set_cons_zero, List.set_cons_succ]
            refine wpAnyH_take (i := 13) (oi := ⟨some 43, _, _, _, _, _⟩) (v := undef) rfl (by kernel_rfl) (by kernel_rfl) (by kernel_rfl) (fun _ _ _ h => h) (Or.inr ⟨by rfl, rfl⟩) (by assumption) ?_
            simp only [Act.put, List.setIfInBounds_toArray, List.set_cons_zero, List.set_cons_succ]
            refine wpAnyH_take (i := 14) (oi := ⟨some 44, _, _, _, _, _⟩) (v := undef) rfl (by kernel_rfl) (by kernel_rfl) (by kernel_rfl) (fun _ _ _ h => h) (Or.inr ⟨by rfl, rfl⟩) (by assumption) ?_
            simp only [Act.put, List.setIfInBounds_toArray, List.set_cons_zero, List.set_cons_succ]
            refine wpAnyH_take (i := 15) (oi := ⟨some 45, _, _, _, _, _⟩) (v := undef) rfl (by kernel_rfl) (by kernel_rfl) (by kernel_rfl) (fun _ _ _ h => h) (Or.inr ⟨by rfl, rfl⟩) (by assumption) ?_
            simp only [Act.put, List.setIfInBounds_toArray, List.set_cons_zero, List.set_cons_succ]
            refine wpAnyH_take (i := 16) (oi := ⟨some 46, _, _, _, _, _⟩) rfl (by kernel_rfl) (by kernel_rfl) (by kernel_rfl) (fun _ _ _ h => h) (v := ?v16) (Or.inl ⟨by rfl, ?y16⟩) (by assumption) ?r16
            case y16 => (intro w hSw; (try dsimp only at hSw); go_simp; (try with_reducible rfl))
            simp only [Act.put, List.setIfInBounds_toArray, List.set_cons_zero, List.set_cons_succ]
            refine wpAnyH_take (i := 17) (oi := ⟨some 47, _, _, _, _, _⟩) rfl (by kernel_rfl) (by kernel_rfl) (by kernel_rfl) (fun _ _ _ h => h) (v := ?v17) (Or.inl ⟨by rfl, ?y17⟩) (by assumption) ?r17
            case y17 => (intro w hSw; (try dsimp only at hSw); go_simp; (try with_reducible rfl))
            simp only [Act.put, List.setIfInBounds_toArray, List.set_cons_zero, List.set_cons_succ]
            refine wpAnyH_take (i := 18) (oi := ⟨some 4, _, _, _, _, _⟩) rfl (by kernel_rfl) (by kernel_rfl) (by kernel_rfl) (fun _ _ _ h => h) (v := ?v18) (Or.inl ⟨by rfl, ?y18⟩) (by assumption) ?r18
            case y18 => (intro w hSw; (try dsimp only at hSw); go_simp; (try with_reducible rfl))
            simp only [Act.put, List.setIfInBounds_toArray, List.set_cons_zero, List.set_cons_succ]
            refine wpAnyH_done (by kernel_rfl) ?_ _
            go_wp2
            go_ret
            exact ⟨rfl, HK.out⟩
        · clear hg
          go_wp2_with fail
          refine (HAW.out _ HB3.out).mono ?_
          rintro e w4 ⟨rfl, hB4⟩
          have HB4 := Lib.hid (HB3.out.trans (hB4.mono HB3.out.size))
          clear hB4
          go_wp2
          go_ret
          exact ⟨rfl, HB4.out⟩
      · clear hg
        go_wp2_with fail
        refine (HAW.out _ HB2.out).mono ?_
        rintro e w3 ⟨rfl, hB3⟩
        have HB3 := Lib.hid (HB2.out.trans (hB3.mono HB2.out.size))
        clear hB3
        go_wp2
        go_ret
        exact ⟨rfl, HB3.out⟩
    · have d3 : decide ((100 : Int) < (n.ins.length : Int)) = true := decide_eq_true (by omega)
      have d4 : decide (100 < n.ins.length) = true := decide_eq_true (by omega)
      clear h1 h2
      go_wp2_with fail
      refine (HAW.out _ HB1.out).mono ?_
      rintro e w2 ⟨rfl, hB2⟩
      have HB2 := Lib.hid (HB1.out.trans (hB2.mono HB1.out.size))
      clear hB2
      go_wp2
      go_ret
      exact ⟨rfl, HB2.out⟩
  · have d1 : decide ((100 : Int) < (m.ins.length : Int)) = true := decide_eq_true (by omega)
    have d2 : decide (100 < m.ins.length) = true := decide_eq_true (by omega)
    clear h1
    go_wp2_with fail
    refine (HAW.out _ HB1.out).mono ?_
    rintro e w2 ⟨rfl, hB2⟩
    have HB2 := Lib.hid (HB1.out.trans (hB2.mono HB1.out.size))
    clear hB2
    go_wp2
    go_ret
    exact ⟨rfl, HB2.out⟩
end Go.Proofs.YtoailhkaenofpaaDoor
