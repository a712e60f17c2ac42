/-
  code.takeInstruction, gone through.
-/
import Derived.Test.YthkpnbekkoompabGreatDoorCpDQ
import Derived.Deep.AppendLies
import Derived.Deep.RegionLaw
import Derived.IntWalk
import Derived.Deep.RegionHeld3
namespace Go.Proofs.YthkpnbekkoompabGreatDoor
open Go.RowKit

theorem Cc.drew {bc : Nat} {vP vI : Value} {c : CoM} {w : World} (h : Cc bc vP vI c w) : Cc bc vP vI c w.drew := ⟨h.box, h.rowP, h.rowI⟩
theorem cellSetNe (w : World) (g o b p : Nat) (v : Value) (h : b ≠ g) : (w.setCell ⟨g, o, none⟩ v).cell? ⟨b, p, none⟩ = w.cell? ⟨b, p, none⟩ := World.cell?_of_block (a := ⟨b, p, none⟩) (setNe w g o v b h)
theorem ownRowCells {w : World} {base n g cap sz : Nat} {e : TypeId} {xs : List Value} (h : w.ownsRow base e sz (.slice (some ⟨g, 0, none⟩) n cap) n xs) : True ∧ True ∧ True ∧ True ∧ True ∧ True ∧ ∀ j, j < n * sz → ∃ u, w.cell? ⟨g, j, none⟩ = some u ∧ w.frozen? ⟨g, j, none⟩ = false := by
  refine ⟨trivial, trivial, trivial, trivial, trivial, trivial, fun j hj => ?_⟩
  rcases h.2 with ⟨h0, _⟩ | ⟨g', cap', cur, hv, hb, hg, h1, h2, h3, h4⟩
  · cases h0
  · injection hv with e1 e2 e3
    injection e1 with e1
    injection e1 with e1
    subst e1 e3
    have hjl : j < cur.size := by rw [h3]; exact Nat.lt_of_lt_of_le hj (Nat.mul_le_mul_right _ h1)
    exact ⟨cur[j], by rw [cellC hg j, Array.getElem?_eq_getElem hjl], by simp [World.frozen?, hg]⟩
section
variable {bc : Nat} {vP vI : Value} {c : CoM} {w : World} {ps : List (List UInt8)}
/-- numbers of all parts but the first one. -/
theorem rest_calls (b off n : Nat) (hn : ps.length = n) (hA : SxAt w (some ⟨b, off, none⟩) ps) (hT : TX w) (hl : ∀ t ∈ ps, t.length ≤ 100000) (hn1 : n ≤ 1000000) (A : Option Addr) (hAd : 2 ≤ n → A = some ⟨b, off + 1, none⟩) (W : World) (hB : Below w.heap.size w W) :
    Calls Tryz.prog 42 #[.slice A (n - 1) (n - 1)] W (NumP (ps.drop 1) W) := by
  have hd : (ps.drop 1).length = n - 1 := by rw [List.length_drop]; omega
  have h := numbers_calls (ps.drop 1) A (n - 1) W (hT.below hB (Nat.le_refl _)) (fun h0 => by
    have h2 : 2 ≤ n := by omega
    obtain ⟨b', off', hbb, hb, hcl⟩ := hA (by omega)
    injection hbb with hbb
    injection hbb with e1 e2
    subst e1 e2
    rw [hAd h2]
    refine ⟨b, off + 1, rfl, Nat.lt_of_lt_of_le hb hB.size, fun j hj => ?_⟩
    rw [List.length_drop] at hj
    have h3 := keepC hB (hcl (1 + j) (by omega)) hb
    rw [List.getElem_drop, show off + 1 + j = off + (1 + j) by omega]
    exact h3) (fun t ht => by have := hl t (List.mem_of_mem_drop ht); omega) (by omega)
  rw [hd] at h
  exact h

set_option maxRecDepth 100000 in
set_option maxHeartbeats 4000000 in
theorem takeI_calls (hbc : bc ≤ w.heap.size) (hc : Cc bc vP vI c w) (b off n : Nat) (hn : ps.length = n) (hn1 : 1 ≤ n) (hn2 : n ≤ 1000000) (hA : SxAt w (some ⟨b, off, none⟩) ps) (hT : TX w) (hl : ∀ t ∈ ps, t.length ≤ 100000) (hf : c.ps ≠ []) (hfp : c.ps.length ≤ 1000000) (hfi : c.is.length ≤ 1000000) :
    Calls Tryz.prog 23 #[.pointer (some ⟨bc, 0, none⟩), .slice (some ⟨b, off, none⟩) n n] w (TkP bc (takeIM c ps) w) := by
  obtain ⟨i0, hi0, hz0, hz1, hz2⟩ := info_parts Tryz.infoInt
  obtain ⟨j0, hj0, hy0, hy1, hy2⟩ := info_parts Tryz.infoIn
  obtain ⟨b', off', hbb, hb, hcl⟩ := hA (by omega)
  injection hbb with hbb
  injection hbb with e1 e2
  subst e1 e2
  have h0 : 0 < ps.length := by omega
  have q0 := hcl 0 h0
  rw [Nat.add_zero] at q0
  have g0 : ps.getD 0 [] = ps[0] := by rw [List.getD_eq_getElem?_getD, List.getElem?_eq_getElem h0]; rfl
  have HOP := Lib.hid (opOf_calls ps[0] w hT.ts.shp)
  have HOL := opM_le ps[0]
  have HN1 : Hid (∀ {l : List Int}, numsM (ps.drop 1) = some l → (opM ps[0] = 0 ∨ l.length ≠ manyM (opM ps[0])) → takeIM c ps = none) := Lib.hid (by rw [← g0]; exact takeIM_no)
  have HY1 : Hid (∀ {l : List Int}, numsM (ps.drop 1) = some l → opM ps[0] ≠ 0 → l.length = manyM (opM ps[0]) → takeIM c ps = some ⟨endAt (c.is.length + 1) c.ps, c.is ++ [⟨opM ps[0], l.getD 0 0, l.getD 1 0⟩]⟩) := Lib.hid (fun h1 h2 h3 => takeIM_yes h1 (by rw [g0]) h2 h3)
  have HNU := Lib.hid (fun A hAd W hB => rest_calls b off n hn hA hT hl hn2 A hAd W hB)
  have HMY := Lib.hid (fun W (hB : Below w.heap.size w W) => many_calls (opM ps[0]) (by omega) W (hT.below hB (Nat.le_refl _)).ts.shp)
  have HC := Lib.hid hc
  generalize ps[0] = t0 at *
  generalize opM t0 = o at *
  have hk0 : (1 : Int) ≤ (n : Int) := by omega
  have hk1 : (0 : Int) < (n : Int) := by omega
  clear hcl hA hT hl hc hn g0
  rcases (by omega : n = 1 ∨ ¬ n = 1) with hone | hone
  focus
    subst hone
    go_enter Tryz.func23, Tryz.ntmps23
    go_wp2_with (go_at_call 44; refine HOP.out.mono ?_; rintro e w' ⟨rfl, rfl⟩)
    refine (HNU.out (some ⟨b, off, none⟩) (by omega) w (Below.refl _ _)).mono ?_
  rotate_left 1
  focus
    go_enter Tryz.func23, Tryz.ntmps23
    go_wp2_with (go_at_call 44; refine HOP.out.mono ?_; rintro e w' ⟨rfl, rfl⟩)
    refine (HNU.out (some ⟨b, off + 1, none⟩) (fun _ => rfl) w (Below.refl _ _)).mono ?_
  all_goals
    rintro e w2 ⟨hB2, hnum⟩
    have HB2 := Lib.hid hB2
    clear hB2 HNU HOP q0
    rcases hnum with ⟨hnone, rfl⟩ | ⟨l, v, hsome, rfl, hown⟩
    · have HR := Lib.hid (takeIM_bad (c := c) hnone)
      clear hnone
      go_wp2
      all_goals
        go_ret
        exact tk_none HR.out (HB2.out.mono hbc)
    · obtain ⟨Av, cv, rfl⟩ := own_sliceC hown
      have HOW := Lib.hid hown
      have HSM := Lib.hid hsome
      clear hown hsome
      by_cases ho : o = 0
      · have e1 : ((o : Int) == 0) = true := beq_iff_eq.2 (by omega)
        have HR := Lib.hid (HN1.out HSM.out (.inl ho))
        clear ho
        go_wp2
        all_goals
          go_ret
          exact tk_none HR.out (HB2.out.mono hbc)
      · have e1 : ((o : Int) == 0) = false := beq_eq_false_iff_ne.2 (by omega)
        have e2 : (o == 0) = false := beq_eq_false_iff_ne.2 ho
        by_cases hm : l.length = manyM o
        · have HR := Lib.hid (HY1.out HSM.out ho hm)
          have f1 : ((l.length : Int) == (manyM o : Int)) = true := beq_iff_eq.2 (by omega)
          have f2 : (l.length == manyM o) = true := beq_iff_eq.2 hm
          have f3 : ((l.length : Int) != (manyM o : Int)) = false := by simp [bne, f1]
          have f4 : (l.length != manyM o) = false := by simp [bne, f2]
          have hl2 : l.length ≤ 2 := by rw [hm]; unfold manyM; split <;> (try split) <;> omega
          generalize manyM o = m at *
          clear hm ho
          have HC2 := Lib.hid (HC.out.keep HB2.out)
          have hbl : bc < w2.heap.size := blkLt HC2.out.box
          have hzz : w.heap.size ≤ w2.heap.size := HB2.out.size
          go_wp2_with (first | (go_at_call 35; refine (HMY.out _ HB2.out).mono ?_; rintro e w' ⟨rfl, rfl⟩) | (at_builtin; refine wpList_append_own _ rfl _ _ 52 rfl w.heap.size 3 i0 (.int .i64 0) 1 8 Tryz.underlying52 hi0 hz0 hz1 hz2 rfl (by decide) (.slice Av l.length cv) l.length (intsL l) rfl (HOW.out.alloc _) ⟨w2.heap.size, 0, none⟩ 2 2 [.int .i64 0, .int .i64 0] (by rfl) rfl (World.news_of_block (heapOne w2 #[.int .i64 0, .int .i64 0] 3)) (by intro u hu; simp at hu; subst hu; rfl) (by unfold maxLen; omega) (by omega) (by simp; omega) ?_; intro v' w3 hown3 hgrow hnil; clear hnil; have HG := Lib.hid hgrow; have H3 := Lib.hid hown3; clear hgrow hown3))
          have HB3 := Lib.hid (below_appC (HB2.out.alloc hzz _) (Nat.le_refl _) (HOW.out.alloc _) HG.out)
          have HC3 := Lib.hid (HC.out.keep HB3.out)
          obtain ⟨gn, capn, rfl, _, _, _, hnc⟩ := ownForm (n := l.length + 1) H3.out
          have m0 := hnc 0 (.int .i64 (l.getD 0 0)) (by match l with | [] => rfl | a :: r => rfl)
          have m1 := hnc 1 (.int .i64 (l.getD 1 0)) (by match l with | [] => rfl | [a] => rfl | a :: b :: r => rfl)
          obtain ⟨k, hk⟩ : ∃ k, c.ps.length = k + 1 := ⟨c.ps.length - 1, by have := List.length_pos_iff.2 hf; omega⟩
          have hrp := HC3.out.rowP
          obtain ⟨gP, cP, rfl, hgP⟩ := hrp.form (by omega)
          have hgP2 := own_ltC hrp gP rfl
          obtain ⟨AI, cI, rfl⟩ := own_sliceC HC3.out.rowI
          have x1 := cellC HC3.out.box 1
          have hbl3 : bc < w3.heap.size := blkLt HC3.out.box
          have HNOI := Lib.hid HC3.out.rowI.lt
          generalize l.getD 0 0 = n0 at *
          generalize l.getD 1 0 = n1 at *
          have HBA := Lib.hid (((Below.refl w3.heap.size w3).drew).alloc (by show w3.heap.size ≤ w3.heap.size; omega) (.cells (inC ⟨o, n0, n1⟩).toArray 42))
          have HNB := Lib.hid (World.news_of_block (heapOne w3.drew (inC ⟨o, n0, n1⟩).toArray 42))
          have HOA := Lib.hid (own_keepC HC3.out.rowI fun g hg => HBA.out.block g (own_ltC HC3.out.rowI g hg).2)
          have HON := Lib.hid (oneIn ⟨o, n0, n1⟩)
          have HGI := Lib.hid (fun W v' w4 h1 h2 => HC3.out.growI (W := W) (vI' := v') (w3 := w4) (x := ⟨o, n0, n1⟩) h1 h2)
          have HKK := Lib.hid hk
          have l2 : (1 : Int) < (l.length : Int) + 1 + 1 := by omega
          have l3 : (0 : Int) < (l.length : Int) + 1 + 1 := by omega
          clear hnc hrp hk HY1 HN1 HMY HSM f1 f2 f3 f4 e1 e2 HG H3 HOW HC2 HC
          go_region_law ((refine step_append_lies _ rfl (.tmp 38) (.tmp 47) 24 rfl (bc + 1) 42 j0 (.agg #[.int .i64 0, .int .i64 0, .int .i64 0]) 3 24 Tryz.underlying24 hj0 hy0 hy1 hy2 rfl (by decide) (.slice AI c.is.length cI) c.is.length (flatI c.is) (by simp [Act.eval]) HOA.out ⟨w3.heap.size, 0, none⟩ 1 1 (inC ⟨o, n0, n1⟩) (by simp [Act.eval]) rfl HNB.out HON.out (by decide) (by unfold maxLen; omega) (by omega) (by simp; omega) (w3.heap.size + 1) (by simp) ?_; intro g4 cap4 w4 hown hgrow hat hg4; have HG := Lib.hid hgrow; have HO4 := Lib.hid hown; have hbx := (hgrow.block bc (by simp; omega) (fun e => by have := (HNOI.out bc e.symm).1; omega)).trans ((HBA.out.block bc hbl3).trans HC3.out.box); have hc4 := cellC hbx 1; have hf4 : w4.frozen? ⟨bc, 1, none⟩ = false := (by simp [World.frozen?, hbx]); clear hgrow hown hat hbx))
          all_goals
            obtain ⟨hc5, hB5⟩ := HGI.out _ _ _ HBA.out HO4.out HG.out
            have HC5 := Lib.hid hc5
            have HB5 := Lib.hid (HB3.out.mono hbc |>.trans hB5)
            clear hc5 hB5 HG HO4 hc4 hf4 m0 m1 x1
            go_wp2
            generalize w4.setCell ⟨bc, 1, none⟩ (.slice (some ⟨g4, 0, none⟩) (c.is.length + 1) cap4) = W5 at *
            have y0 : W5.drew.cell? ⟨bc, 0, none⟩ = some (.slice (some ⟨gP, 0, none⟩) c.ps.length cP) := cellC HC5.out.box 0
            have y1 : W5.drew.cell? ⟨bc, 1, none⟩ = some (.slice (some ⟨g4, 0, none⟩) (c.is.length + 1) cap4) := cellC HC5.out.box 1
            have HEN := Lib.hid (Cc.ends (c := ⟨c.ps, c.is ++ [⟨o, n0, n1⟩]⟩) (n := (c.is.length : Int) + 1) HC5.out.drew HKK.out)
            have hgp := own_ltC HC5.out.rowP gP rfl
            obtain ⟨_, _, _, _, _, _, hgc⟩ := ownRowCells HC5.out.rowP
            obtain ⟨uo, hst⟩ := hgc (k * 6 + 2) (by rw [HKK.out]; omega)
            have y2 : W5.drew.cell? ⟨gP, k * 6 + 2, none⟩ = some uo := hst.1
            have y3 : W5.drew.frozen? ⟨gP, k * 6 + 2, none⟩ = false := hst.2
            have i1 : (0 : Int) ≤ (k : Int) := by omega
            have i2 : (k : Int) < (c.ps.length : Int) := by have := HKK.out; omega
            have i3 : IntKind.i64.wrap ((c.ps.length : Int) - 1) = (k : Int) := by rw [show (c.ps.length : Int) - 1 = (k : Int) by have := HKK.out; omega]; exact IntWalk.i64_in _ (by have := HKK.out; omega)
            have hgne : bc ≠ gP := by have := hgp.1; omega
            go_region_held3 (fun w' => w'.cell? ⟨bc, 0, none⟩ = some (.slice (some ⟨gP, 0, none⟩) c.ps.length cP) ∧ w'.cell? ⟨bc, 1, none⟩ = some (.slice (some ⟨g4, 0, none⟩) (c.is.length + 1) cap4))
              (first | with_reducible exact ⟨y0, y1⟩ | exact ⟨(cellSetNe _ _ _ _ _ _ hgne).trans y0, (cellSetNe _ _ _ _ _ _ hgne).trans y1⟩)
              (fail)
            go_wp2
            go_ret
            exact tk_some HR.out (HB5.out.drew.trans HEN.out.2) HEN.out.1
        · have HR := Lib.hid (HN1.out HSM.out (.inr hm))
          have f1 : ((l.length : Int) == (manyM o : Int)) = false := beq_eq_false_iff_ne.2 (by omega)
          have f2 : (l.length == manyM o) = false := beq_eq_false_iff_ne.2 hm
          have f3 : ((l.length : Int) != (manyM o : Int)) = true := by simp [bne, f1]
          have f4 : (l.length != manyM o) = true := by simp [bne, f2]
          generalize manyM o = m at *
          clear hm ho
          go_wp2_with (go_at_call 35; refine (HMY.out _ HB2.out).mono ?_; rintro e w' ⟨rfl, rfl⟩)
          all_goals
            go_ret
            exact tk_none HR.out (HB2.out.mono hbc)
end
end Go.Proofs.YthkpnbekkoompabGreatDoor
