/-
  rewindref10.Line, walked: a line that is no procedure's.
-/
import Derived.Test.YthkpnbekkoompabGreatDoorCsLbQ
namespace Go.Proofs.YthkpnbekkoompabGreatDoor
open Go.RowKit

set_option maxRecDepth 100000 in
set_option maxHeartbeats 8000000 in
theorem refLine_instr (r : CoM) (vP vI : Value) (B : Nat) (s : List UInt8) (hs : s.length ≤ 20000) (w : World) (hP : w.ownsRow B 51 6 vP r.ps.length (flatP r.ps)) (hI : w.ownsRow B 55 3 vI r.is.length (flatI r.is)) (hB : B ≤ w.heap.size) (hn1 : r.ps.length ≤ 100000) (hn2 : r.is.length ≤ 100000) (hpr : (splitL s).getD 0 [] ≠ procB) :
    Calls Tryz.prog 14 #[.agg #[vP, vI], .string (bs s)] w (LnP B vP vI r (lineR r (splitL s)) w) := by
  obtain ⟨i0, hi0, hz0, hz1, hz2⟩ := info_parts Tryz.infoInt
  obtain ⟨iI, hI0, hI1, hI2, hI3⟩ := info_parts Tryz.infoRI
  obtain ⟨AP, cP, rfl⟩ := own_sliceC hP
  obtain ⟨AI, cI, rfl⟩ := own_sliceC hI
  have HP := Lib.hid hP
  have HI := Lib.hid hI
  have HPR := Lib.hid hpr
  have HBAD : Hid (numsM ((splitL s).drop 1) = none → lineR r (splitL s) = none) := Lib.hid (lineR_bad hpr)
  have HSP := Lib.hid (fun W => refSplit_calls s (by omega) W)
  have hne := splitT_ne s
  have hpl := splitL_sz s
  obtain ⟨P, hPs⟩ : ∃ P, P = splitL s := ⟨_, rfl⟩
  have HPL : Hid (∀ p ∈ P, p.length ≤ 20000) := Lib.hid (fun p hp => by rw [hPs] at hp; have := hpl.2 p hp; omega)
  have hnp : P.length ≤ 100001 := by rw [hPs]; omega
  have hnp1 : 0 < P.length := by rw [hPs]; exact List.length_pos_iff.2 hne
  unfold RsP at HSP
  rw [← hPs] at HSP HPR HBAD ⊢
  clear hP hI hpr hne hpl hPs hs
  have HB0 := Lib.hid (((Below.refl w.heap.size w).alloc (Nat.le_refl _) (.cells #[.slice AP r.ps.length cP, .slice AI r.is.length cI] 33)).alloc (by simp) (.cells #[.slice none 0 0, .slice none 0 0] 33))
  have HX := Lib.hid ((Below.heap_alloc (w.alloc (.cells #[.slice AP r.ps.length cP, .slice AI r.is.length cI] 33)) (.cells #[.slice none 0 0, .slice none 0 0] 33) w.heap.size (by simp)).trans (heapOne w #[.slice AP r.ps.length cP, .slice AI r.is.length cI] 33))
  have hy := heapOne (w.alloc (.cells #[.slice AP r.ps.length cP, .slice AI r.is.length cI] 33)) #[.slice none 0 0, .slice none 0 0] 33
  rw [World.size_alloc] at hy
  have HY := Lib.hid hy
  clear hy
  go_enter Tryz.func14, Tryz.ntmps14
  go_wp2_with fail
  generalize (w.alloc (.cells #[.slice AP r.ps.length cP, .slice AI r.is.length cI] 33)).alloc (.cells #[.slice none 0 0, .slice none 0 0] 33) = W0 at *
  have hw0 : w.heap.size + 1 < W0.heap.size := blkLt HY.out
  refine (HSP.out W0).mono ?_
  rintro e w1 ⟨hB1, v, rfl, hrow⟩
  have HB1 := Lib.hid (HB0.out.trans (hB1.mono (by omega)))
  have HX1 := Lib.hid ((hB1.block _ (by omega)).trans HX.out)
  have HY1 := Lib.hid ((hB1.block _ hw0).trans HY.out)
  obtain ⟨gs, cs, rfl, hgs1, hgs2, hcs1, hcs2, hcell⟩ := own_cellC hrow hnp1
  have HCL : Hid (∀ j (h : j < P.length), w1.cell? ⟨gs, j, none⟩ = some (.string (bs P[j]))) := Lib.hid (fun j h => by rw [hcell j h]; simp [strsP, h])
  unfold maxLen at hcs2
  clear hB1 hrow hcell HSP
  have x0 : w1.cell? ⟨gs, 0, none⟩ = some (.string (bs P[0])) := HCL.out 0 hnp1
  have e0 : ((bs P[0]).toList == [112, 114, 111, 99]) = false := by
    rw [ByteArray.toList_eq, bs_toList]
    refine beq_eq_false_iff_ne.2 (fun h => HPR.out ?_)
    rw [List.getD_eq_getElem?_getD, List.getElem?_eq_getElem hnp1]
    exact h
  have k1 : (0 : Int) < (P.length : Int) := by omega
  go_wp2_with fail
  clear x0 e0
  go_loopw [7, 9] (fun v i wr => ∃ (j : Nat) (l : List Int), 1 ≤ j ∧ j ≤ P.length ∧ l.length + 1 = j ∧ i = .int .i64 j ∧ Hid (numsM ((P.drop 1).take (j - 1)) = some l) ∧ Hid (wr.ownsRow w1.heap.size 3 1 v l.length (intsL l)) ∧ Hid (Below w1.heap.size w1 wr)) (fun _ i _ => P.length - (intOf i).toNat)
  case atStart => exact ⟨1, [], by omega, by omega, rfl, rfl, Lib.hid rfl, Lib.hid (World.ownsRow_nil _ _ _ _), Lib.hid (Below.refl _ _)⟩
  case round =>
    obtain ⟨j, l, hj1, hj2, hlj, rfl, HN, HV, HB⟩ := hrel
    obtain ⟨An, cn, hvn⟩ := own_sliceC HV.out
    subst hvn
    have hsz1 : w1.heap.size ≤ wr.heap.size := HB.out.size
    by_cases hjt : j < P.length
    · have xj : wr.cell? ⟨gs, j, none⟩ = some (.string (bs P[j])) := keepC HB.out (HCL.out j hjt) hgs2
      have HNU := Lib.hid (number_calls P[j] (Nat.le_trans (HPL.out _ (List.getElem_mem hjt)) (by omega)) wr)
      have hns := nums_step hjt hj1 HN.out
      have HSOME := Lib.hid hns.1
      have HNONE := Lib.hid hns.2
      unfold NuP at HNU
      generalize P[j] = pj at *
      have k0 : (0 : Int) ≤ (j : Int) := by omega
      have kj : (j : Int) < (P.length : Int) := by omega
      clear hns
      go_wp2_with fail
      refine HNU.out.mono ?_
      rintro e w5 ⟨hB5, h5⟩
      have HB5 := Lib.hid (HB.out.trans (hB5.mono (by omega)))
      have HV5 := Lib.hid (own_keepC HV.out fun g hg => hB5.block g (own_ltC HV.out g hg).2)
      have hz5 : w1.heap.size ≤ w5.heap.size := HB5.out.size
      clear hB5 HNU xj
      rcases h5 with ⟨m, hm, rfl⟩ | ⟨hm, m, rfl⟩
      · have HN2 := Lib.hid (HSOME.out m hm)
        clear hm
        go_wp2_with (at_builtin; refine wpList_append_own _ rfl _ _ 52 rfl w1.heap.size 3 i0 (.int .i64 0) 1 8 Tryz.underlying52 hi0 hz0 hz1 hz2 rfl (by decide) (.slice An l.length cn) l.length (intsL l) rfl (HV5.out.alloc _) ⟨w5.heap.size, 0, none⟩ 1 1 [.int .i64 m] (by rfl) rfl (newsI w5 (.int .i64 m) 3 w5.heap.size rfl) (oneI _) (by unfold maxLen; omega) (by omega) (by simp; omega) ?_; intro v' w6 hown6 hgrow hnil; clear hnil; have HG6 := Lib.hid hgrow; have H6 := Lib.hid hown6; clear hgrow hown6)
        go_roundw
        case rel => exact ⟨j + 1, l ++ [m], by omega, by omega, by simp; omega, by go_num, HN2, Lib.hid (by rw [intsL_snoc, List.length_append]; exact H6.out), Lib.hid (below_appC (HB5.out.alloc hz5 _) (Nat.le_refl _) (HV5.out.alloc _) HG6.out)⟩
        case measure => simp [intOf]; omega
      · have HNO := Lib.hid (HBAD.out (HNONE.out hm))
        clear hm
        have HX5 := Lib.hid ((HB5.out.block _ (blkLt HX1.out)).trans HX1.out)
        have HY5 := Lib.hid ((HB5.out.block _ (blkLt HY1.out)).trans HY1.out)
        have x0 := cellC HX5.out 0
        have x1 := cellC HX5.out 1
        have y0 := cellC HY5.out 0
        have y1 := cellC HY5.out 1
        have f0 := frzL HY5.out 0
        have f1 := frzL HY5.out 1
        obtain ⟨p0, p1, pb⟩ := putL (u := .slice AP r.ps.length cP) (v := .slice AI r.is.length cI) HY5.out
        have HPB := Lib.hid ((HB1.out.trans (HB5.out.mono HB1.out.size)).trans (pb.mono (by omega)))
        clear pb
        go_wp2
        exact bodyPost_ret (v := .tuple #[.agg #[.slice AP r.ps.length cP, .slice AI r.is.length cI], .bool false]) (by simp [results, Tryz.f14, go_sem, p0, p1]) rfl ⟨HPB.out.mono hB, fun k hk _ _ => HPB.out.block k hk, .inl ⟨HNO.out, rfl⟩⟩
    · obtain rfl : j = P.length := by omega
      have hnl : numsM (P.drop 1) = some l := by
        have := HN.out
        rwa [List.take_of_length_le (by rw [List.length_drop]; omega)] at this
      have HNL := Lib.hid hnl
      have HX2 := Lib.hid ((HB.out.block _ (blkLt HX1.out)).trans HX1.out)
      have HY2 := Lib.hid ((HB.out.block _ (blkLt HY1.out)).trans HY1.out)
      have HB2 := Lib.hid (HB1.out.trans (HB.out.mono HB1.out.size))
      have HQ0 := Lib.hid (keepC HB.out (HCL.out 0 hnp1) hgs2)
      clear hnl hjt hj1 hj2
      have hP0 : P.getD 0 [] = P[0] := by rw [List.getD_eq_getElem?_getD, List.getElem?_eq_getElem hnp1]; rfl
      have HNOI : Hid ((r.ps = [] ∨ opM P[0] = 0 ∨ l.length ≠ manyM (opM P[0])) → lineR r P = none) := Lib.hid (fun h => lineR_no HPR.out HNL.out (by rw [hP0]; exact h))
      have HYES : Hid (¬ (r.ps = [] ∨ opM P[0] = 0 ∨ l.length ≠ manyM (opM P[0])) → lineR r P = some ⟨r.ps, r.is ++ [⟨opM P[0], l.getD 0 0, l.getD 1 0⟩]⟩) := Lib.hid (fun h => by
        have := lineR_yes HPR.out HNL.out (by rw [hP0]; exact h)
        rwa [hP0] at this)
      have hw1w : w1.heap.size ≤ wr.heap.size := hsz1
      generalize P[0] = p0 at *
      clear hP0 HN HPR HBAD HPL
      obtain ⟨w2, rfl⟩ : ∃ x, x = wr := ⟨_, rfl⟩
      go_wp2_with fail
      go_loopw [12] (fun i wr => ∃ op : Nat, 1 ≤ op ∧ op ≤ 30 ∧ i = .int .i64 op ∧ Hid (∀ k, 1 ≤ k → k < op → ¬ (opW.getD k [] = p0 ∧ r.ps ≠ [] ∧ l.length = manyM k)) ∧ Hid (Below w2.heap.size w2 wr)) (fun i _ => 30 - (intOf i).toNat)
      case atStart => exact ⟨1, by omega, by omega, rfl, Lib.hid (fun k h1 h2 => by omega), Lib.hid (Below.refl _ _)⟩
      case round =>
        obtain ⟨op, ho1, ho2, rfl, HNK, HBO⟩ := hrel
        have hsz2 : w2.heap.size ≤ wr.heap.size := HBO.out.size
        by_cases hot : op < 30
        · have hgl : gs < w2.heap.size := by omega
          have xq : wr.drew.cell? ⟨gs, 0, none⟩ = some (.string (bs p0)) := keepC (below_drewC HBO.out 1) HQ0.out hgl
          have HX3 := Lib.hid ((HBO.out.block _ (blkLt HX2.out)).trans HX2.out)
          have xb : wr.drew.cell? ⟨w.heap.size, 0, none⟩ = some (.slice AP r.ps.length cP) := cellC HX3.out 0
          have ko0 : (0 : Int) ≤ (op : Int) := by omega
          have ko1 : (op : Int) < 30 := by omega
          obtain ⟨wd, hwd⟩ : ∃ d, d = bs (opW.getD op []) := ⟨_, rfl⟩
          have HWDE := Lib.hid hwd
          have hcm : (wd.toList == (bs p0).toList) = decide (opW.getD op [] = p0) := by rw [hwd, str_eqC]
          have HK : Hid (Below wr.heap.size wr wr.drew) := Lib.hid (below_drewC (Below.refl _ _) 1)
          have HWD := Lib.hid (fun W => refOpWords_calls W)
          clear hwd
          by_cases hm : opW.getD op [] = p0
          · have e1 : (wd.toList == (bs p0).toList) = true := by rw [hcm]; exact decide_eq_true hm
            have hopm : opM p0 = op := by rw [← hm]; exact (opW_fin ⟨op, hot⟩ ho1).1
            have HOPM := Lib.hid hopm
            have HHS : Hid (∀ W, Calls Tryz.prog 29 #[.int .i64 (op : Int)] W fun e w' => e = .returned (.int .i64 ((manyM op : Nat) : Int)) ∧ Below W.heap.size W w') := Lib.hid (fun W => refHas_calls (op : Int) (by omega) (by omega) W)
            have hmny := many_le op
            by_cases hps : r.ps = []
            · have HNK2 : Hid (∀ k, 1 ≤ k → k < op + 1 → ¬ (opW.getD k [] = p0 ∧ r.ps ≠ [] ∧ l.length = manyM k)) := Lib.hid (fun k h1 h2 h3 => h3.2.1 hps)
              have e2 : decide ((0 : Int) < (r.ps.length : Int)) = false := decide_eq_false (by rw [hps]; simp)
              have e3 : decide (0 < r.ps.length) = false := decide_eq_false (by rw [hps]; simp)
              generalize bs p0 = q0 at *
              clear hcm hm hopm hps
              go_upto_region 21 with (fail)
              have hwN : w.heap.size < wr.heap.size := by have := blkLt HX3.out; omega
              generalize hnpp : r.ps.length = np at *
              refine wp_region_held_drew (S := fun w' => w'.cell? ⟨gs, 0, none⟩ = some (.string q0) ∧ w'.cell? ⟨w.heap.size, 0, none⟩ = some (.slice AP np cP)) (by kernel_rfl) ⟨xq, xb⟩ (fun hHeld => ?_)
              refine wpAnyH_take (i := 1) (oi := ⟨some 82, _, _, _, _, _⟩) rfl (by kernel_rfl) (by kernel_rfl) (by kernel_rfl) (fun _ _ _ h => h) (v := ?v1b1) (Or.inl ⟨by rfl, ?y1b1⟩) (by assumption) ?r1b1
              case y1b1 => (intro w hSw; (try dsimp only at hSw); go_simp; (try with_reducible rfl))
              simp only [Act.put, List.setIfInBounds_toArray, List.set_cons_zero, List.set_cons_succ]
              refine wpAnyH_take (i := 4) (oi := ⟨some 85, _, _, _, _, _⟩) rfl (by kernel_rfl) (by kernel_rfl) (by kernel_rfl) (fun _ _ _ h => h) (v := ?v4b1) (Or.inl ⟨by rfl, ?y4b1⟩) (by assumption) ?r4b1
              case y4b1 => (intro w hSw; (try dsimp only at hSw); go_simp; (try with_reducible rfl))
              simp only [Act.put, List.setIfInBounds_toArray, List.set_cons_zero, List.set_cons_succ]
              refine wpAnyH_take (i := 5) (oi := ⟨some 86, _, _, _, _, _⟩) rfl (by kernel_rfl) (by kernel_rfl) (by kernel_rfl) (fun _ _ _ h => h) (v := ?v5b1) (Or.inl ⟨by rfl, ?y5b1⟩) (by assumption) ?r5b1
              case y5b1 => (intro w hSw; (try dsimp only at hSw); go_simp; (try with_reducible rfl))
              simp only [Act.put, List.setIfInBounds_toArray, List.set_cons_zero, List.set_cons_succ]
              refine wpAnyH_take (i := 6) (oi := ⟨some 87, _, _, _, _, _⟩) rfl (by kernel_rfl) (by kernel_rfl) (by kernel_rfl) (fun _ _ _ h => h) (v := ?v6b1) (Or.inl ⟨by rfl, ?y6b1⟩) (by assumption) ?r6b1
              case y6b1 => (intro w hSw; (try dsimp only at hSw); go_simp; (try with_reducible rfl))
              simp only [Act.put, List.setIfInBounds_toArray, List.set_cons_zero, List.set_cons_succ]
              refine wpAnyH_ready (rs := [0]) (by kernel_rfl) (by simp) ?_
              refine AllReadyH.cons rfl (fun K hK => ?_) AllReadyH.nil
              go_simp
              refine (HWD.out _).mono ?_
              rintro e w6 ⟨rfl, hwdc, hb, hlt6⟩
              have HK := Lib.hid (HK.out.trans (hb.mono HK.out.size))
              have xq : w6.cell? ⟨gs, 0, none⟩ = some (.string q0) := keepC hb xq (by show gs < wr.heap.size; omega)
              have xb : w6.cell? ⟨w.heap.size, 0, none⟩ = some (.slice AP np cP) := keepC hb xb (by show w.heap.size < wr.heap.size; omega)
              have v0 : w6.cell? ⟨wr.heap.size, op, none⟩ = some (.string wd) := (hwdc op (by omega)).trans (by rw [← HWDE.out])
              have hz6 : wr.heap.size ≤ w6.heap.size := Nat.le_of_lt hlt6
              clear hb hwdc hHeld
              go_simp
              refine hK.out _ _ ⟨xq, xb⟩ (fun hHeld => ?_)
              clear hK K
              try simp only [Act.put, List.setIfInBounds_toArray, List.set_cons_zero, List.set_cons_succ]
              refine wpAnyH_take (i := 2) (oi := ⟨some 83, _, _, _, _, _⟩) rfl (by kernel_rfl) (by kernel_rfl) (by kernel_rfl) (fun _ _ _ h => h) (v := ?v2b1) (Or.inl ⟨by rfl, ?y2b1⟩) (by assumption) ?r2b1
              case y2b1 => (intro w hSw; (try dsimp only at hSw); go_simp; (try with_reducible rfl))
              simp only [Act.put, List.setIfInBounds_toArray, List.set_cons_zero, List.set_cons_succ]
              refine wpAnyH_ready (rs := [3]) (by kernel_rfl) (by simp) ?_
              refine AllReadyH.cons rfl (fun K hK => ?_) AllReadyH.nil
              go_simp
              clear hHeld
              go_simp
              refine hK.out _ _ ⟨xq, xb⟩ (fun hHeld => ?_)
              clear hK K
              try simp only [Act.put, List.setIfInBounds_toArray, List.set_cons_zero, List.set_cons_succ]
              refine wpAnyH_take (i := 7) (oi := ⟨some 88, _, _, _, _, _⟩) rfl (by kernel_rfl) (by kernel_rfl) (by kernel_rfl) (fun _ _ _ h => h) (v := ?v7b1) (Or.inl ⟨by rfl, ?y7b1⟩) (by assumption) ?r7b1
              case y7b1 => (intro w hSw; (try dsimp only at hSw); go_simp; (try with_reducible rfl))
              simp only [Act.put, List.setIfInBounds_toArray, List.set_cons_zero, List.set_cons_succ]
              refine wpAnyH_take (i := 8) (oi := ⟨some 89, _, _, _, _, _⟩) rfl (by kernel_rfl) (by kernel_rfl) (by kernel_rfl) (fun _ _ _ h => h) (v := ?v8b1) (Or.inl ⟨by rfl, ?y8b1⟩) (by assumption) ?r8b1
              case y8b1 => (intro w hSw; (try dsimp only at hSw); go_simp; (try with_reducible rfl))
              simp only [Act.put, List.setIfInBounds_toArray, List.set_cons_zero, List.set_cons_succ]
              refine wpAnyH_take (i := 9) (oi := ⟨some 90, _, _, _, _, _⟩) rfl (by kernel_rfl) (by kernel_rfl) (by kernel_rfl) (fun _ _ _ h => h) (v := ?v9b1) (Or.inl ⟨by rfl, ?y9b1⟩) (by assumption) ?r9b1
              case y9b1 => (intro w hSw; (try dsimp only at hSw); go_simp; (try with_reducible rfl))
              simp only [Act.put, List.setIfInBounds_toArray, List.set_cons_zero, List.set_cons_succ]
              refine wpAnyH_take (i := 10) (oi := ⟨some 91, _, _, _, _, _⟩) rfl (by kernel_rfl) (by kernel_rfl) (by kernel_rfl) (fun _ _ _ h => h) (v := ?v10b1) (Or.inl ⟨by rfl, ?y10b1⟩) (by assumption) ?r10b1
              case y10b1 => (intro w hSw; (try dsimp only at hSw); go_simp; (try with_reducible rfl))
              simp only [Act.put, List.setIfInBounds_toArray, List.set_cons_zero, List.set_cons_succ]
              refine wpAnyH_take (i := 11) (oi := ⟨some 92, _, _, _, _, _⟩) rfl (by kernel_rfl) (by kernel_rfl) (by kernel_rfl) (fun _ _ _ h => h) (v := ?v11b1) (Or.inl ⟨by rfl, ?y11b1⟩) (by assumption) ?r11b1
              case y11b1 => (intro w hSw; (try dsimp only at hSw); go_simp; (try with_reducible rfl))
              simp only [Act.put, List.setIfInBounds_toArray, List.set_cons_zero, List.set_cons_succ]
              refine wpAnyH_take (i := 12) (oi := ⟨some 93, _, _, _, _, _⟩) rfl (by kernel_rfl) (by kernel_rfl) (by kernel_rfl) (fun _ _ _ h => h) (v := ?v12b1) (Or.inl ⟨by rfl, ?y12b1⟩) (by assumption) ?r12b1
              case y12b1 => (intro w hSw; (try dsimp only at hSw); go_simp; (try with_reducible rfl))
              simp only [Act.put, List.setIfInBounds_toArray, List.set_cons_zero, List.set_cons_succ]
              refine wpAnyH_take (i := 13) (oi := ⟨some 94, _, _, _, _, _⟩) rfl (by kernel_rfl) (by kernel_rfl) (by kernel_rfl) (fun _ _ _ h => h) (v := ?v13b1) (Or.inl ⟨by rfl, ?y13b1⟩) (by assumption) ?r13b1
              case y13b1 => (intro w hSw; (try dsimp only at hSw); go_simp; (try with_reducible rfl))
              simp only [Act.put, List.setIfInBounds_toArray, List.set_cons_zero, List.set_cons_succ]
              refine wpAnyH_take (i := 14) (oi := ⟨some 95, _, _, _, _, _⟩) rfl (by kernel_rfl) (by kernel_rfl) (by kernel_rfl) (fun _ _ _ h => h) (v := ?v14b1) (Or.inl ⟨by rfl, ?y14b1⟩) (by assumption) ?r14b1
              case y14b1 => (intro w hSw; (try dsimp only at hSw); go_simp; (try with_reducible rfl))
              simp only [Act.put, List.setIfInBounds_toArray, List.set_cons_zero, List.set_cons_succ]
              refine wpAnyH_take (i := 15) (oi := ⟨some 96, _, _, _, _, _⟩) (v := undef) rfl (by kernel_rfl) (by kernel_rfl) (by kernel_rfl) (fun _ _ _ h => h) (Or.inr ⟨by rfl, rfl⟩) (by assumption) ?_
              simp only [Act.put, List.setIfInBounds_toArray, List.set_cons_zero, List.set_cons_succ]
              refine wpAnyH_take (i := 16) (oi := ⟨some 97, _, _, _, _, _⟩) (v := undef) rfl (by kernel_rfl) (by kernel_rfl) (by kernel_rfl) (fun _ _ _ h => h) (Or.inr ⟨by rfl, rfl⟩) (by assumption) ?_
              simp only [Act.put, List.setIfInBounds_toArray, List.set_cons_zero, List.set_cons_succ]
              refine wpAnyH_take (i := 17) (oi := ⟨some 98, _, _, _, _, _⟩) (v := undef) rfl (by kernel_rfl) (by kernel_rfl) (by kernel_rfl) (fun _ _ _ h => h) (Or.inr ⟨by rfl, rfl⟩) (by assumption) ?_
              simp only [Act.put, List.setIfInBounds_toArray, List.set_cons_zero, List.set_cons_succ]
              refine wpAnyH_take (i := 18) (oi := ⟨some 99, _, _, _, _, _⟩) (v := undef) rfl (by kernel_rfl) (by kernel_rfl) (by kernel_rfl) (fun _ _ _ h => h) (Or.inr ⟨by rfl, rfl⟩) (by assumption) ?_
              simp only [Act.put, List.setIfInBounds_toArray, List.set_cons_zero, List.set_cons_succ]
              refine wpAnyH_take (i := 19) (oi := ⟨some 100, _, _, _, _, _⟩) (v := undef) rfl (by kernel_rfl) (by kernel_rfl) (by kernel_rfl) (fun _ _ _ h => h) (Or.inr ⟨by rfl, rfl⟩) (by assumption) ?_
              simp only [Act.put, List.setIfInBounds_toArray, List.set_cons_zero, List.set_cons_succ]
              refine wpAnyH_take (i := 20) (oi := ⟨some 101, _, _, _, _, _⟩) rfl (by kernel_rfl) (by kernel_rfl) (by kernel_rfl) (fun _ _ _ h => h) (v := ?v20b1) (Or.inl ⟨by rfl, ?y20b1⟩) (by assumption) ?r20b1
              case y20b1 => (intro w hSw; (try dsimp only at hSw); go_simp; (try with_reducible rfl))
              simp only [Act.put, List.setIfInBounds_toArray, List.set_cons_zero, List.set_cons_succ]
              refine wpAnyH_done (by kernel_rfl) ?_ _
              subst hnpp
              have HBN := Lib.hid (HBO.out.trans (HK.out.mono hsz2))
              clear xq xb v0
              go_wp2
              go_roundw
              case rel => exact ⟨op + 1, by omega, by omega, by go_num, HNK2, HBN⟩
              case measure => simp [intOf]; omega
            · have hpos : 0 < r.ps.length := List.length_pos_iff.2 hps
              have e2 : decide ((0 : Int) < (r.ps.length : Int)) = true := decide_eq_true (by omega)
              have e3 : decide (0 < r.ps.length) = true := decide_eq_true hpos
              by_cases hl : l.length = manyM op
              · have e4 : ((l.length : Int) == (manyM op : Int)) = true := beq_iff_eq.2 (by omega)
                have e5 : (l.length == manyM op) = true := beq_iff_eq.2 hl
                have HR := Lib.hid (HYES.out (by rw [hopm]; rintro (h | h | h); exact hps h; omega; exact h hl))
                rw [hopm] at HR
                have hl2 : l.length ≤ 2 := by omega
                generalize bs p0 = q0 at *
                clear hcm hm hopm hps hpos hl
                go_upto_region 21 with (fail)
                have hwN : w.heap.size < wr.heap.size := by have := blkLt HX3.out; omega
                generalize hnpp : r.ps.length = np at *
                generalize manyM op = mm at *
                refine wp_region_held_drew (S := fun w' => w'.cell? ⟨gs, 0, none⟩ = some (.string q0) ∧ w'.cell? ⟨w.heap.size, 0, none⟩ = some (.slice AP np cP)) (by kernel_rfl) ⟨xq, xb⟩ (fun hHeld => ?_)
                refine wpAnyH_take (i := 1) (oi := ⟨some 82, _, _, _, _, _⟩) rfl (by kernel_rfl) (by kernel_rfl) (by kernel_rfl) (fun _ _ _ h => h) (v := ?v1c1) (Or.inl ⟨by rfl, ?y1c1⟩) (by assumption) ?r1c1
                case y1c1 => (intro w hSw; (try dsimp only at hSw); go_simp; (try with_reducible rfl))
                simp only [Act.put, List.setIfInBounds_toArray, List.set_cons_zero, List.set_cons_succ]
                refine wpAnyH_take (i := 4) (oi := ⟨some 85, _, _, _, _, _⟩) rfl (by kernel_rfl) (by kernel_rfl) (by kernel_rfl) (fun _ _ _ h => h) (v := ?v4c1) (Or.inl ⟨by rfl, ?y4c1⟩) (by assumption) ?r4c1
                case y4c1 => (intro w hSw; (try dsimp only at hSw); go_simp; (try with_reducible rfl))
                simp only [Act.put, List.setIfInBounds_toArray, List.set_cons_zero, List.set_cons_succ]
                refine wpAnyH_take (i := 5) (oi := ⟨some 86, _, _, _, _, _⟩) rfl (by kernel_rfl) (by kernel_rfl) (by kernel_rfl) (fun _ _ _ h => h) (v := ?v5c1) (Or.inl ⟨by rfl, ?y5c1⟩) (by assumption) ?r5c1
                case y5c1 => (intro w hSw; (try dsimp only at hSw); go_simp; (try with_reducible rfl))
                simp only [Act.put, List.setIfInBounds_toArray, List.set_cons_zero, List.set_cons_succ]
                refine wpAnyH_take (i := 6) (oi := ⟨some 87, _, _, _, _, _⟩) rfl (by kernel_rfl) (by kernel_rfl) (by kernel_rfl) (fun _ _ _ h => h) (v := ?v6c1) (Or.inl ⟨by rfl, ?y6c1⟩) (by assumption) ?r6c1
                case y6c1 => (intro w hSw; (try dsimp only at hSw); go_simp; (try with_reducible rfl))
                simp only [Act.put, List.setIfInBounds_toArray, List.set_cons_zero, List.set_cons_succ]
                refine wpAnyH_ready (rs := [0]) (by kernel_rfl) (by simp) ?_
                refine AllReadyH.cons rfl (fun K hK => ?_) AllReadyH.nil
                go_simp
                refine (HWD.out _).mono ?_
                rintro e w6 ⟨rfl, hwdc, hb, hlt6⟩
                have HK := Lib.hid (HK.out.trans (hb.mono HK.out.size))
                have xq : w6.cell? ⟨gs, 0, none⟩ = some (.string q0) := keepC hb xq (by show gs < wr.heap.size; omega)
                have xb : w6.cell? ⟨w.heap.size, 0, none⟩ = some (.slice AP np cP) := keepC hb xb (by show w.heap.size < wr.heap.size; omega)
                have v0 : w6.cell? ⟨wr.heap.size, op, none⟩ = some (.string wd) := (hwdc op (by omega)).trans (by rw [← HWDE.out])
                have hz6 : wr.heap.size ≤ w6.heap.size := Nat.le_of_lt hlt6
                clear hb hwdc hHeld
                go_simp
                refine hK.out _ _ ⟨xq, xb⟩ (fun hHeld => ?_)
                clear hK K
                try simp only [Act.put, List.setIfInBounds_toArray, List.set_cons_zero, List.set_cons_succ]
                refine wpAnyH_take (i := 2) (oi := ⟨some 83, _, _, _, _, _⟩) rfl (by kernel_rfl) (by kernel_rfl) (by kernel_rfl) (fun _ _ _ h => h) (v := ?v2c1) (Or.inl ⟨by rfl, ?y2c1⟩) (by assumption) ?r2c1
                case y2c1 => (intro w hSw; (try dsimp only at hSw); go_simp; (try with_reducible rfl))
                simp only [Act.put, List.setIfInBounds_toArray, List.set_cons_zero, List.set_cons_succ]
                refine wpAnyH_ready (rs := [3]) (by kernel_rfl) (by simp) ?_
                refine AllReadyH.cons rfl (fun K hK => ?_) AllReadyH.nil
                go_simp
                clear hHeld
                go_simp
                refine hK.out _ _ ⟨xq, xb⟩ (fun hHeld => ?_)
                clear hK K
                try simp only [Act.put, List.setIfInBounds_toArray, List.set_cons_zero, List.set_cons_succ]
                refine wpAnyH_take (i := 7) (oi := ⟨some 88, _, _, _, _, _⟩) rfl (by kernel_rfl) (by kernel_rfl) (by kernel_rfl) (fun _ _ _ h => h) (v := ?v7c1) (Or.inl ⟨by rfl, ?y7c1⟩) (by assumption) ?r7c1
                case y7c1 => (intro w hSw; (try dsimp only at hSw); go_simp; (try with_reducible rfl))
                simp only [Act.put, List.setIfInBounds_toArray, List.set_cons_zero, List.set_cons_succ]
                refine wpAnyH_take (i := 8) (oi := ⟨some 89, _, _, _, _, _⟩) rfl (by kernel_rfl) (by kernel_rfl) (by kernel_rfl) (fun _ _ _ h => h) (v := ?v8c1) (Or.inl ⟨by rfl, ?y8c1⟩) (by assumption) ?r8c1
                case y8c1 => (intro w hSw; (try dsimp only at hSw); go_simp; (try with_reducible rfl))
                simp only [Act.put, List.setIfInBounds_toArray, List.set_cons_zero, List.set_cons_succ]
                refine wpAnyH_take (i := 9) (oi := ⟨some 90, _, _, _, _, _⟩) rfl (by kernel_rfl) (by kernel_rfl) (by kernel_rfl) (fun _ _ _ h => h) (v := ?v9c1) (Or.inl ⟨by rfl, ?y9c1⟩) (by assumption) ?r9c1
                case y9c1 => (intro w hSw; (try dsimp only at hSw); go_simp; (try with_reducible rfl))
                simp only [Act.put, List.setIfInBounds_toArray, List.set_cons_zero, List.set_cons_succ]
                refine wpAnyH_take (i := 10) (oi := ⟨some 91, _, _, _, _, _⟩) rfl (by kernel_rfl) (by kernel_rfl) (by kernel_rfl) (fun _ _ _ h => h) (v := ?v10c1) (Or.inl ⟨by rfl, ?y10c1⟩) (by assumption) ?r10c1
                case y10c1 => (intro w hSw; (try dsimp only at hSw); go_simp; (try with_reducible rfl))
                simp only [Act.put, List.setIfInBounds_toArray, List.set_cons_zero, List.set_cons_succ]
                refine wpAnyH_take (i := 11) (oi := ⟨some 92, _, _, _, _, _⟩) rfl (by kernel_rfl) (by kernel_rfl) (by kernel_rfl) (fun _ _ _ h => h) (v := ?v11c1) (Or.inl ⟨by rfl, ?y11c1⟩) (by assumption) ?r11c1
                case y11c1 => (intro w hSw; (try dsimp only at hSw); go_simp; (try with_reducible rfl))
                simp only [Act.put, List.setIfInBounds_toArray, List.set_cons_zero, List.set_cons_succ]
                refine wpAnyH_take (i := 12) (oi := ⟨some 93, _, _, _, _, _⟩) rfl (by kernel_rfl) (by kernel_rfl) (by kernel_rfl) (fun _ _ _ h => h) (v := ?v12c1) (Or.inl ⟨by rfl, ?y12c1⟩) (by assumption) ?r12c1
                case y12c1 => (intro w hSw; (try dsimp only at hSw); go_simp; (try with_reducible rfl))
                simp only [Act.put, List.setIfInBounds_toArray, List.set_cons_zero, List.set_cons_succ]
                refine wpAnyH_take (i := 13) (oi := ⟨some 94, _, _, _, _, _⟩) rfl (by kernel_rfl) (by kernel_rfl) (by kernel_rfl) (fun _ _ _ h => h) (v := ?v13c1) (Or.inl ⟨by rfl, ?y13c1⟩) (by assumption) ?r13c1
                case y13c1 => (intro w hSw; (try dsimp only at hSw); go_simp; (try with_reducible rfl))
                simp only [Act.put, List.setIfInBounds_toArray, List.set_cons_zero, List.set_cons_succ]
                refine wpAnyH_take (i := 14) (oi := ⟨some 95, _, _, _, _, _⟩) rfl (by kernel_rfl) (by kernel_rfl) (by kernel_rfl) (fun _ _ _ h => h) (v := ?v14c1) (Or.inl ⟨by rfl, ?y14c1⟩) (by assumption) ?r14c1
                case y14c1 => (intro w hSw; (try dsimp only at hSw); go_simp; (try with_reducible rfl))
                simp only [Act.put, List.setIfInBounds_toArray, List.set_cons_zero, List.set_cons_succ]
                refine wpAnyH_take (i := 15) (oi := ⟨some 96, _, _, _, _, _⟩) rfl (by kernel_rfl) (by kernel_rfl) (by kernel_rfl) (fun _ _ _ h => h) (v := ?v15c1) (Or.inl ⟨by rfl, ?y15c1⟩) (by assumption) ?r15c1
                case y15c1 => (intro w hSw; (try dsimp only at hSw); go_simp; (try with_reducible rfl))
                simp only [Act.put, List.setIfInBounds_toArray, List.set_cons_zero, List.set_cons_succ]
                refine wpAnyH_take (i := 16) (oi := ⟨some 97, _, _, _, _, _⟩) rfl (by kernel_rfl) (by kernel_rfl) (by kernel_rfl) (fun _ _ _ h => h) (v := ?v16c1) (Or.inl ⟨by rfl, ?y16c1⟩) (by assumption) ?r16c1
                case y16c1 => (intro w hSw; (try dsimp only at hSw); go_simp; (try with_reducible rfl))
                simp only [Act.put, List.setIfInBounds_toArray, List.set_cons_zero, List.set_cons_succ]
                refine wpAnyH_take (i := 17) (oi := ⟨some 98, _, _, _, _, _⟩) rfl (by kernel_rfl) (by kernel_rfl) (by kernel_rfl) (fun _ _ _ h => h) (v := ?v17c1) (Or.inl ⟨by rfl, ?y17c1⟩) (by assumption) ?r17c1
                case y17c1 => (intro w hSw; (try dsimp only at hSw); go_simp; (try with_reducible rfl))
                simp only [Act.put, List.setIfInBounds_toArray, List.set_cons_zero, List.set_cons_succ]
                refine wpAnyH_ready (rs := [18]) (by kernel_rfl) (by simp) ?_
                refine AllReadyH.cons rfl (fun K hK => ?_) AllReadyH.nil
                go_simp
                refine (HHS.out _).mono ?_
                rintro e w7 ⟨rfl, hb⟩
                have xq : w7.cell? ⟨gs, 0, none⟩ = some (.string q0) := keepC hb xq (by omega)
                have xb : w7.cell? ⟨w.heap.size, 0, none⟩ = some (.slice AP np cP) := keepC hb xb (by omega)
                have HK := Lib.hid (HK.out.trans (hb.mono HK.out.size))
                clear hb hHeld
                go_simp
                refine hK.out _ _ ⟨xq, xb⟩ (fun hHeld => ?_)
                clear hK K
                try simp only [Act.put, List.setIfInBounds_toArray, List.set_cons_zero, List.set_cons_succ]
                refine wpAnyH_take (i := 19) (oi := ⟨some 100, _, _, _, _, _⟩) rfl (by kernel_rfl) (by kernel_rfl) (by kernel_rfl) (fun _ _ _ h => h) (v := ?v19c1) (Or.inl ⟨by rfl, ?y19c1⟩) (by assumption) ?r19c1
                case y19c1 => (intro w hSw; (try dsimp only at hSw); go_simp; (try with_reducible rfl))
                simp only [Act.put, List.setIfInBounds_toArray, List.set_cons_zero, List.set_cons_succ]
                refine wpAnyH_take (i := 20) (oi := ⟨some 101, _, _, _, _, _⟩) rfl (by kernel_rfl) (by kernel_rfl) (by kernel_rfl) (fun _ _ _ h => h) (v := ?v20c1) (Or.inl ⟨by rfl, ?y20c1⟩) (by assumption) ?r20c1
                case y20c1 => (intro w hSw; (try dsimp only at hSw); go_simp; (try with_reducible rfl))
                simp only [Act.put, List.setIfInBounds_toArray, List.set_cons_zero, List.set_cons_succ]
                refine wpAnyH_done (by kernel_rfl) ?_ _
                subst hnpp
                have HBN := Lib.hid (HBO.out.trans (HK.out.mono hsz2))
                clear xq xb v0
                have HB7 := Lib.hid ((Bx.mk HB2.out HX2.out HY2.out).step HBN.out)
                have HV7 := Lib.hid (own_keepC HV.out fun g hg => HBN.out.block g (own_ltC HV.out g hg).2)
                have hz7 : w.heap.size + 1 < w7.heap.size := blkLt HB7.out.r
                have HC0 := heapOne w7 #[.int .i64 (op : Int), .int .i64 0, .int .i64 0] 55
                have HA0 := (Below.refl w7.heap.size w7).alloc (Nat.le_refl _) (.cells #[.int .i64 (op : Int), .int .i64 0, .int .i64 0] 55)
                have HNW := Lib.hid (fun (g o : Nat) (u : Value) (h : w7.cell? ⟨g, o, none⟩ = some u) => newC h (.cells #[.int .i64 (op : Int), .int .i64 0, .int .i64 0] 55))
                have HGL : Hid (∀ g, (Value.slice An l.length cn).ownBlock = some g → g < w7.heap.size) := Lib.hid (fun g hg => (own_ltC HV7.out g hg).2)
                have hcase : l.length = 0 ∨ l.length = 1 ∨ l.length = 2 := by omega
                go_upto_region 23 with (fail)
                have HLW : Hid (w.heap.size < w7.heap.size) := Lib.hid (by omega)
                generalize hN : w7.heap.size = N at *
                generalize w7.alloc (.cells #[.int .i64 (op : Int), .int .i64 0, .int .i64 0] 55) = W5 at *
                have HC5 := Lib.hid HC0
                have HA5 := Lib.hid HA0
                have fz1 := frzL HC0 1
                have fz2 := frzL HC0 2
                have fi0 : W5.cell? ⟨N, 0, none⟩ = some (.int .i64 (op : Int)) := cellC HC0 0
                have fi1 : W5.cell? ⟨N, 1, none⟩ = some (.int .i64 0) := cellC HC0 1
                have fi2 : W5.cell? ⟨N, 2, none⟩ = some (.int .i64 0) := cellC HC0 2
                have HNN := Lib.hid hN
                clear HC0 HA0 hN
                rcases hcase with hl | hl | hl
                · rw [hl] at HV7 ⊢
                  obtain rfl : l = [] := List.eq_nil_of_length_eq_zero hl
                  have HX6 := HC5
                  have HB6 := HA5
                  clear hl
                  go_upto_region 27 with (fail)
                  obtain ⟨W6, rfl⟩ : ∃ W, W = W5 := ⟨_, rfl⟩
                  have HBX6 := Lib.hid (HB7.out.step (by rw [HNN.out]; exact HB6.out))
                  have hs6 : w.heap.size ≤ W6.heap.size := HBX6.out.low.size
                  have i0 : W6.cell? ⟨N, 0, none⟩ = some (.int .i64 (op : Int)) := cellC HX6.out 0
                  have i1 : W6.cell? ⟨N, 1, none⟩ = some (.int .i64 0) := cellC HX6.out 1
                  have i2 : W6.cell? ⟨N, 2, none⟩ = some (.int .i64 0) := cellC HX6.out 2
                  have x1 : W6.cell? ⟨w.heap.size, 1, none⟩ = some (.slice AI r.is.length cI) := cellC HBX6.out.c 1
                  have HBA := Lib.hid ((Below.refl W6.heap.size W6).alloc (Nat.le_refl _) (.cells (inC ⟨op, 0, 0⟩).toArray 55))
                  have HBXA := Lib.hid (HBX6.out.step HBA.out)
                  have HOA := Lib.hid (own_keepC HI.out fun g hg => HBXA.out.low.block g (own_ltC HI.out g hg).2)
                  have HGN := Lib.hid (fun w4 (hg : (W6.alloc (.cells (inC ⟨op, 0, 0⟩).toArray 55)).grownBy w4 (Value.slice AI r.is.length cI).ownBlock) => HBXA.out.grown (fun g hg => (own_ltC HI.out g hg).2) hg)
                  have HR2 : Hid (lineR r P = some ⟨r.ps, r.is ++ [⟨op, 0, 0⟩]⟩) := Lib.hid HR.out
                  go_wp2_with (at_builtin; refine wpList_append_own _ rfl _ _ 31 rfl B 55 iI (.agg #[.int .i64 0, .int .i64 0, .int .i64 0]) 3 24 Tryz.underlying31 hI0 hI1 hI2 hI3 rfl (by decide) (.slice AI r.is.length cI) r.is.length (flatI r.is) rfl HOA.out ⟨W6.heap.size, 0, none⟩ 1 1 (inC ⟨op, 0, 0⟩) (by rfl) rfl (World.news_of_block (heapOne W6 (inC ⟨op, 0, 0⟩).toArray 55)) (oneIn _) (by unfold maxLen; omega) (by omega) (by simp; omega) ?_; intro v' w8 hown hgrow hnil; clear hnil; obtain ⟨Av, cv, rfl⟩ := own_sliceC hown; have HG := Lib.hid hgrow; have HO4 := Lib.hid hown; obtain ⟨b1, b2⟩ := HGN.out _ hgrow; have c0 : w8.cell? ⟨w.heap.size, 0, none⟩ = some (.slice AP r.ps.length cP) := cellC b1 0; have c1 : w8.cell? ⟨w.heap.size, 1, none⟩ = some (.slice AI r.is.length cI) := cellC b1 1; have fc := frzL b1 1; have d0 : w8.cell? ⟨w.heap.size + 1, 0, none⟩ = some (.slice none 0 0) := cellC b2 0; have d1 : w8.cell? ⟨w.heap.size + 1, 1, none⟩ = some (.slice none 0 0) := cellC b2 1; have fd0 := frzL b2 0; have fd1 := frzL b2 1; clear hgrow hown b1 b2)
                  obtain ⟨pp0, pp1, hln⟩ := HBXA.out.doneI hB HP.out HI.out HO4.out HG.out _ rfl
                  rw [HR2.out]
                  exact bodyPost_ret (v := .tuple #[.agg #[.slice AP r.ps.length cP, .slice Av (r.is.length + 1) cv], .bool true]) (by simp [results, Tryz.f14, go_sem, pp0, pp1]) rfl hln
                · rw [hl] at HV7 ⊢
                  obtain ⟨a, rfl⟩ : ∃ a, l = [a] := by
                    match l, hl with
                    | [a], _ => exact ⟨a, rfl⟩
                  obtain ⟨g, capn, hve, hgb, hcapa, hcapm, hnc⟩ := ownForm (n := 0) HV7.out
                  injection hve with hv1 hvl hv2
                  clear hvl
                  subst hv1 hv2
                  have m0 : W5.cell? ⟨g, 0, none⟩ = some (.int .i64 a) := HNW.out _ _ _ (hnc 0 _ rfl)
                  have HX6 := Lib.hid (setAt _ N 1 (.int .i64 a) _ _ _ HC5.out)
                  have HB6 := Lib.hid (HA5.out.setCell (p := ⟨N, 1, none⟩) (Nat.le_refl _) (.int .i64 a))
                  clear hl hnc
                  go_upto_region 27 with (fail)
                  generalize W5.setCell ⟨N, 1, none⟩ (.int .i64 a) = W6 at *
                  have HBX6 := Lib.hid (HB7.out.step (by rw [HNN.out]; exact HB6.out))
                  have hs6 : w.heap.size ≤ W6.heap.size := HBX6.out.low.size
                  have i0 : W6.cell? ⟨N, 0, none⟩ = some (.int .i64 (op : Int)) := cellC HX6.out 0
                  have i1 : W6.cell? ⟨N, 1, none⟩ = some (.int .i64 a) := cellC HX6.out 1
                  have i2 : W6.cell? ⟨N, 2, none⟩ = some (.int .i64 0) := cellC HX6.out 2
                  have x1 : W6.cell? ⟨w.heap.size, 1, none⟩ = some (.slice AI r.is.length cI) := cellC HBX6.out.c 1
                  have HBA := Lib.hid ((Below.refl W6.heap.size W6).alloc (Nat.le_refl _) (.cells (inC ⟨op, a, 0⟩).toArray 55))
                  have HBXA := Lib.hid (HBX6.out.step HBA.out)
                  have HOA := Lib.hid (own_keepC HI.out fun g hg => HBXA.out.low.block g (own_ltC HI.out g hg).2)
                  have HGN := Lib.hid (fun w4 (hg : (W6.alloc (.cells (inC ⟨op, a, 0⟩).toArray 55)).grownBy w4 (Value.slice AI r.is.length cI).ownBlock) => HBXA.out.grown (fun g hg => (own_ltC HI.out g hg).2) hg)
                  have HR2 : Hid (lineR r P = some ⟨r.ps, r.is ++ [⟨op, a, 0⟩]⟩) := Lib.hid HR.out
                  go_wp2_with (at_builtin; refine wpList_append_own _ rfl _ _ 31 rfl B 55 iI (.agg #[.int .i64 0, .int .i64 0, .int .i64 0]) 3 24 Tryz.underlying31 hI0 hI1 hI2 hI3 rfl (by decide) (.slice AI r.is.length cI) r.is.length (flatI r.is) rfl HOA.out ⟨W6.heap.size, 0, none⟩ 1 1 (inC ⟨op, a, 0⟩) (by rfl) rfl (World.news_of_block (heapOne W6 (inC ⟨op, a, 0⟩).toArray 55)) (oneIn _) (by unfold maxLen; omega) (by omega) (by simp; omega) ?_; intro v' w8 hown hgrow hnil; clear hnil; obtain ⟨Av, cv, rfl⟩ := own_sliceC hown; have HG := Lib.hid hgrow; have HO4 := Lib.hid hown; obtain ⟨b1, b2⟩ := HGN.out _ hgrow; have c0 : w8.cell? ⟨w.heap.size, 0, none⟩ = some (.slice AP r.ps.length cP) := cellC b1 0; have c1 : w8.cell? ⟨w.heap.size, 1, none⟩ = some (.slice AI r.is.length cI) := cellC b1 1; have fc := frzL b1 1; have d0 : w8.cell? ⟨w.heap.size + 1, 0, none⟩ = some (.slice none 0 0) := cellC b2 0; have d1 : w8.cell? ⟨w.heap.size + 1, 1, none⟩ = some (.slice none 0 0) := cellC b2 1; have fd0 := frzL b2 0; have fd1 := frzL b2 1; clear hgrow hown b1 b2)
                  obtain ⟨pp0, pp1, hln⟩ := HBXA.out.doneI hB HP.out HI.out HO4.out HG.out _ rfl
                  rw [HR2.out]
                  exact bodyPost_ret (v := .tuple #[.agg #[.slice AP r.ps.length cP, .slice Av (r.is.length + 1) cv], .bool true]) (by simp [results, Tryz.f14, go_sem, pp0, pp1]) rfl hln
                · rw [hl] at HV7 ⊢
                  obtain ⟨a, b, rfl⟩ : ∃ a b, l = [a, b] := by
                    match l, hl with
                    | [a, b], _ => exact ⟨a, b, rfl⟩
                  obtain ⟨g, capn, hve, hgb, hcapa, hcapm, hnc⟩ := ownForm (n := 1) HV7.out
                  injection hve with hv1 hvl hv2
                  clear hvl
                  subst hv1 hv2
                  have m0 : W5.cell? ⟨g, 0, none⟩ = some (.int .i64 a) := HNW.out _ _ _ (hnc 0 _ rfl)
                  have m1 : W5.cell? ⟨g, 1, none⟩ = some (.int .i64 b) := HNW.out _ _ _ (hnc 1 _ rfl)
                  have hgN : g < N := by have := HGL.out g rfl; omega
                  have HX6 := Lib.hid (setAt _ N 2 (.int .i64 b) _ _ _ (setAt _ N 1 (.int .i64 a) _ _ _ HC5.out))
                  have HB6 := Lib.hid ((HA5.out.setCell (p := ⟨N, 1, none⟩) (Nat.le_refl _) (.int .i64 a)).setCell (p := ⟨N, 2, none⟩) (Nat.le_refl _) (.int .i64 b))
                  clear hl hnc
                  go_upto_region 27 with (fail)
                  generalize (W5.setCell ⟨N, 1, none⟩ (.int .i64 a)).setCell ⟨N, 2, none⟩ (.int .i64 b) = W6 at *
                  have HBX6 := Lib.hid (HB7.out.step (by rw [HNN.out]; exact HB6.out))
                  have hs6 : w.heap.size ≤ W6.heap.size := HBX6.out.low.size
                  have i0 : W6.cell? ⟨N, 0, none⟩ = some (.int .i64 (op : Int)) := cellC HX6.out 0
                  have i1 : W6.cell? ⟨N, 1, none⟩ = some (.int .i64 a) := cellC HX6.out 1
                  have i2 : W6.cell? ⟨N, 2, none⟩ = some (.int .i64 b) := cellC HX6.out 2
                  have x1 : W6.cell? ⟨w.heap.size, 1, none⟩ = some (.slice AI r.is.length cI) := cellC HBX6.out.c 1
                  have HBA := Lib.hid ((Below.refl W6.heap.size W6).alloc (Nat.le_refl _) (.cells (inC ⟨op, a, b⟩).toArray 55))
                  have HBXA := Lib.hid (HBX6.out.step HBA.out)
                  have HOA := Lib.hid (own_keepC HI.out fun g hg => HBXA.out.low.block g (own_ltC HI.out g hg).2)
                  have HGN := Lib.hid (fun w4 (hg : (W6.alloc (.cells (inC ⟨op, a, b⟩).toArray 55)).grownBy w4 (Value.slice AI r.is.length cI).ownBlock) => HBXA.out.grown (fun g hg => (own_ltC HI.out g hg).2) hg)
                  have HR2 : Hid (lineR r P = some ⟨r.ps, r.is ++ [⟨op, a, b⟩]⟩) := Lib.hid HR.out
                  go_wp2_with (at_builtin; refine wpList_append_own _ rfl _ _ 31 rfl B 55 iI (.agg #[.int .i64 0, .int .i64 0, .int .i64 0]) 3 24 Tryz.underlying31 hI0 hI1 hI2 hI3 rfl (by decide) (.slice AI r.is.length cI) r.is.length (flatI r.is) rfl HOA.out ⟨W6.heap.size, 0, none⟩ 1 1 (inC ⟨op, a, b⟩) (by rfl) rfl (World.news_of_block (heapOne W6 (inC ⟨op, a, b⟩).toArray 55)) (oneIn _) (by unfold maxLen; omega) (by omega) (by simp; omega) ?_; intro v' w8 hown hgrow hnil; clear hnil; obtain ⟨Av, cv, rfl⟩ := own_sliceC hown; have HG := Lib.hid hgrow; have HO4 := Lib.hid hown; obtain ⟨b1, b2⟩ := HGN.out _ hgrow; have c0 : w8.cell? ⟨w.heap.size, 0, none⟩ = some (.slice AP r.ps.length cP) := cellC b1 0; have c1 : w8.cell? ⟨w.heap.size, 1, none⟩ = some (.slice AI r.is.length cI) := cellC b1 1; have fc := frzL b1 1; have d0 : w8.cell? ⟨w.heap.size + 1, 0, none⟩ = some (.slice none 0 0) := cellC b2 0; have d1 : w8.cell? ⟨w.heap.size + 1, 1, none⟩ = some (.slice none 0 0) := cellC b2 1; have fd0 := frzL b2 0; have fd1 := frzL b2 1; clear hgrow hown b1 b2)
                  obtain ⟨pp0, pp1, hln⟩ := HBXA.out.doneI hB HP.out HI.out HO4.out HG.out _ rfl
                  rw [HR2.out]
                  exact bodyPost_ret (v := .tuple #[.agg #[.slice AP r.ps.length cP, .slice Av (r.is.length + 1) cv], .bool true]) (by simp [results, Tryz.f14, go_sem, pp0, pp1]) rfl hln
              · have e4 : ((l.length : Int) == (manyM op : Int)) = false := beq_eq_false_iff_ne.2 (by omega)
                have e5 : (l.length == manyM op) = false := beq_eq_false_iff_ne.2 hl
                have HNK2 : Hid (∀ k, 1 ≤ k → k < op + 1 → ¬ (opW.getD k [] = p0 ∧ r.ps ≠ [] ∧ l.length = manyM k)) := Lib.hid (fun k h1 h2 h3 => by
                  by_cases hk : k < op
                  · exact HNK.out k h1 hk h3
                  · obtain rfl : k = op := by omega
                    exact hl h3.2.2)
                generalize bs p0 = q0 at *
                clear hcm hm hopm hps hpos hl
                go_upto_region 21 with (fail)
                have hwN : w.heap.size < wr.heap.size := by have := blkLt HX3.out; omega
                generalize hnpp : r.ps.length = np at *
                generalize manyM op = mm at *
                refine wp_region_held_drew (S := fun w' => w'.cell? ⟨gs, 0, none⟩ = some (.string q0) ∧ w'.cell? ⟨w.heap.size, 0, none⟩ = some (.slice AP np cP)) (by kernel_rfl) ⟨xq, xb⟩ (fun hHeld => ?_)
                refine wpAnyH_take (i := 1) (oi := ⟨some 82, _, _, _, _, _⟩) rfl (by kernel_rfl) (by kernel_rfl) (by kernel_rfl) (fun _ _ _ h => h) (v := ?v1c2) (Or.inl ⟨by rfl, ?y1c2⟩) (by assumption) ?r1c2
                case y1c2 => (intro w hSw; (try dsimp only at hSw); go_simp; (try with_reducible rfl))
                simp only [Act.put, List.setIfInBounds_toArray, List.set_cons_zero, List.set_cons_succ]
                refine wpAnyH_take (i := 4) (oi := ⟨some 85, _, _, _, _, _⟩) rfl (by kernel_rfl) (by kernel_rfl) (by kernel_rfl) (fun _ _ _ h => h) (v := ?v4c2) (Or.inl ⟨by rfl, ?y4c2⟩) (by assumption) ?r4c2
                case y4c2 => (intro w hSw; (try dsimp only at hSw); go_simp; (try with_reducible rfl))
                simp only [Act.put, List.setIfInBounds_toArray, List.set_cons_zero, List.set_cons_succ]
                refine wpAnyH_take (i := 5) (oi := ⟨some 86, _, _, _, _, _⟩) rfl (by kernel_rfl) (by kernel_rfl) (by kernel_rfl) (fun _ _ _ h => h) (v := ?v5c2) (Or.inl ⟨by rfl, ?y5c2⟩) (by assumption) ?r5c2
                case y5c2 => (intro w hSw; (try dsimp only at hSw); go_simp; (try with_reducible rfl))
                simp only [Act.put, List.setIfInBounds_toArray, List.set_cons_zero, List.set_cons_succ]
                refine wpAnyH_take (i := 6) (oi := ⟨some 87, _, _, _, _, _⟩) rfl (by kernel_rfl) (by kernel_rfl) (by kernel_rfl) (fun _ _ _ h => h) (v := ?v6c2) (Or.inl ⟨by rfl, ?y6c2⟩) (by assumption) ?r6c2
                case y6c2 => (intro w hSw; (try dsimp only at hSw); go_simp; (try with_reducible rfl))
                simp only [Act.put, List.setIfInBounds_toArray, List.set_cons_zero, List.set_cons_succ]
                refine wpAnyH_ready (rs := [0]) (by kernel_rfl) (by simp) ?_
                refine AllReadyH.cons rfl (fun K hK => ?_) AllReadyH.nil
                go_simp
                refine (HWD.out _).mono ?_
                rintro e w6 ⟨rfl, hwdc, hb, hlt6⟩
                have HK := Lib.hid (HK.out.trans (hb.mono HK.out.size))
                have xq : w6.cell? ⟨gs, 0, none⟩ = some (.string q0) := keepC hb xq (by show gs < wr.heap.size; omega)
                have xb : w6.cell? ⟨w.heap.size, 0, none⟩ = some (.slice AP np cP) := keepC hb xb (by show w.heap.size < wr.heap.size; omega)
                have v0 : w6.cell? ⟨wr.heap.size, op, none⟩ = some (.string wd) := (hwdc op (by omega)).trans (by rw [← HWDE.out])
                have hz6 : wr.heap.size ≤ w6.heap.size := Nat.le_of_lt hlt6
                clear hb hwdc hHeld
                go_simp
                refine hK.out _ _ ⟨xq, xb⟩ (fun hHeld => ?_)
                clear hK K
                try simp only [Act.put, List.setIfInBounds_toArray, List.set_cons_zero, List.set_cons_succ]
                refine wpAnyH_take (i := 2) (oi := ⟨some 83, _, _, _, _, _⟩) rfl (by kernel_rfl) (by kernel_rfl) (by kernel_rfl) (fun _ _ _ h => h) (v := ?v2c2) (Or.inl ⟨by rfl, ?y2c2⟩) (by assumption) ?r2c2
                case y2c2 => (intro w hSw; (try dsimp only at hSw); go_simp; (try with_reducible rfl))
                simp only [Act.put, List.setIfInBounds_toArray, List.set_cons_zero, List.set_cons_succ]
                refine wpAnyH_ready (rs := [3]) (by kernel_rfl) (by simp) ?_
                refine AllReadyH.cons rfl (fun K hK => ?_) AllReadyH.nil
                go_simp
                clear hHeld
                go_simp
                refine hK.out _ _ ⟨xq, xb⟩ (fun hHeld => ?_)
                clear hK K
                try simp only [Act.put, List.setIfInBounds_toArray, List.set_cons_zero, List.set_cons_succ]
                refine wpAnyH_take (i := 7) (oi := ⟨some 88, _, _, _, _, _⟩) rfl (by kernel_rfl) (by kernel_rfl) (by kernel_rfl) (fun _ _ _ h => h) (v := ?v7c2) (Or.inl ⟨by rfl, ?y7c2⟩) (by assumption) ?r7c2
                case y7c2 => (intro w hSw; (try dsimp only at hSw); go_simp; (try with_reducible rfl))
                simp only [Act.put, List.setIfInBounds_toArray, List.set_cons_zero, List.set_cons_succ]
                refine wpAnyH_take (i := 8) (oi := ⟨some 89, _, _, _, _, _⟩) rfl (by kernel_rfl) (by kernel_rfl) (by kernel_rfl) (fun _ _ _ h => h) (v := ?v8c2) (Or.inl ⟨by rfl, ?y8c2⟩) (by assumption) ?r8c2
                case y8c2 => (intro w hSw; (try dsimp only at hSw); go_simp; (try with_reducible rfl))
                simp only [Act.put, List.setIfInBounds_toArray, List.set_cons_zero, List.set_cons_succ]
                refine wpAnyH_take (i := 9) (oi := ⟨some 90, _, _, _, _, _⟩) rfl (by kernel_rfl) (by kernel_rfl) (by kernel_rfl) (fun _ _ _ h => h) (v := ?v9c2) (Or.inl ⟨by rfl, ?y9c2⟩) (by assumption) ?r9c2
                case y9c2 => (intro w hSw; (try dsimp only at hSw); go_simp; (try with_reducible rfl))
                simp only [Act.put, List.setIfInBounds_toArray, List.set_cons_zero, List.set_cons_succ]
                refine wpAnyH_take (i := 10) (oi := ⟨some 91, _, _, _, _, _⟩) rfl (by kernel_rfl) (by kernel_rfl) (by kernel_rfl) (fun _ _ _ h => h) (v := ?v10c2) (Or.inl ⟨by rfl, ?y10c2⟩) (by assumption) ?r10c2
                case y10c2 => (intro w hSw; (try dsimp only at hSw); go_simp; (try with_reducible rfl))
                simp only [Act.put, List.setIfInBounds_toArray, List.set_cons_zero, List.set_cons_succ]
                refine wpAnyH_take (i := 11) (oi := ⟨some 92, _, _, _, _, _⟩) rfl (by kernel_rfl) (by kernel_rfl) (by kernel_rfl) (fun _ _ _ h => h) (v := ?v11c2) (Or.inl ⟨by rfl, ?y11c2⟩) (by assumption) ?r11c2
                case y11c2 => (intro w hSw; (try dsimp only at hSw); go_simp; (try with_reducible rfl))
                simp only [Act.put, List.setIfInBounds_toArray, List.set_cons_zero, List.set_cons_succ]
                refine wpAnyH_take (i := 12) (oi := ⟨some 93, _, _, _, _, _⟩) rfl (by kernel_rfl) (by kernel_rfl) (by kernel_rfl) (fun _ _ _ h => h) (v := ?v12c2) (Or.inl ⟨by rfl, ?y12c2⟩) (by assumption) ?r12c2
                case y12c2 => (intro w hSw; (try dsimp only at hSw); go_simp; (try with_reducible rfl))
                simp only [Act.put, List.setIfInBounds_toArray, List.set_cons_zero, List.set_cons_succ]
                refine wpAnyH_take (i := 13) (oi := ⟨some 94, _, _, _, _, _⟩) rfl (by kernel_rfl) (by kernel_rfl) (by kernel_rfl) (fun _ _ _ h => h) (v := ?v13c2) (Or.inl ⟨by rfl, ?y13c2⟩) (by assumption) ?r13c2
                case y13c2 => (intro w hSw; (try dsimp only at hSw); go_simp; (try with_reducible rfl))
                simp only [Act.put, List.setIfInBounds_toArray, List.set_cons_zero, List.set_cons_succ]
                refine wpAnyH_take (i := 14) (oi := ⟨some 95, _, _, _, _, _⟩) rfl (by kernel_rfl) (by kernel_rfl) (by kernel_rfl) (fun _ _ _ h => h) (v := ?v14c2) (Or.inl ⟨by rfl, ?y14c2⟩) (by assumption) ?r14c2
                case y14c2 => (intro w hSw; (try dsimp only at hSw); go_simp; (try with_reducible rfl))
                simp only [Act.put, List.setIfInBounds_toArray, List.set_cons_zero, List.set_cons_succ]
                refine wpAnyH_take (i := 15) (oi := ⟨some 96, _, _, _, _, _⟩) rfl (by kernel_rfl) (by kernel_rfl) (by kernel_rfl) (fun _ _ _ h => h) (v := ?v15c2) (Or.inl ⟨by rfl, ?y15c2⟩) (by assumption) ?r15c2
                case y15c2 => (intro w hSw; (try dsimp only at hSw); go_simp; (try with_reducible rfl))
                simp only [Act.put, List.setIfInBounds_toArray, List.set_cons_zero, List.set_cons_succ]
                refine wpAnyH_take (i := 16) (oi := ⟨some 97, _, _, _, _, _⟩) rfl (by kernel_rfl) (by kernel_rfl) (by kernel_rfl) (fun _ _ _ h => h) (v := ?v16c2) (Or.inl ⟨by rfl, ?y16c2⟩) (by assumption) ?r16c2
                case y16c2 => (intro w hSw; (try dsimp only at hSw); go_simp; (try with_reducible rfl))
                simp only [Act.put, List.setIfInBounds_toArray, List.set_cons_zero, List.set_cons_succ]
                refine wpAnyH_take (i := 17) (oi := ⟨some 98, _, _, _, _, _⟩) rfl (by kernel_rfl) (by kernel_rfl) (by kernel_rfl) (fun _ _ _ h => h) (v := ?v17c2) (Or.inl ⟨by rfl, ?y17c2⟩) (by assumption) ?r17c2
                case y17c2 => (intro w hSw; (try dsimp only at hSw); go_simp; (try with_reducible rfl))
                simp only [Act.put, List.setIfInBounds_toArray, List.set_cons_zero, List.set_cons_succ]
                refine wpAnyH_ready (rs := [18]) (by kernel_rfl) (by simp) ?_
                refine AllReadyH.cons rfl (fun K hK => ?_) AllReadyH.nil
                go_simp
                refine (HHS.out _).mono ?_
                rintro e w7 ⟨rfl, hb⟩
                have xq : w7.cell? ⟨gs, 0, none⟩ = some (.string q0) := keepC hb xq (by omega)
                have xb : w7.cell? ⟨w.heap.size, 0, none⟩ = some (.slice AP np cP) := keepC hb xb (by omega)
                have HK := Lib.hid (HK.out.trans (hb.mono HK.out.size))
                clear hb hHeld
                go_simp
                refine hK.out _ _ ⟨xq, xb⟩ (fun hHeld => ?_)
                clear hK K
                try simp only [Act.put, List.setIfInBounds_toArray, List.set_cons_zero, List.set_cons_succ]
                refine wpAnyH_take (i := 19) (oi := ⟨some 100, _, _, _, _, _⟩) rfl (by kernel_rfl) (by kernel_rfl) (by kernel_rfl) (fun _ _ _ h => h) (v := ?v19c2) (Or.inl ⟨by rfl, ?y19c2⟩) (by assumption) ?r19c2
                case y19c2 => (intro w hSw; (try dsimp only at hSw); go_simp; (try with_reducible rfl))
                simp only [Act.put, List.setIfInBounds_toArray, List.set_cons_zero, List.set_cons_succ]
                refine wpAnyH_take (i := 20) (oi := ⟨some 101, _, _, _, _, _⟩) rfl (by kernel_rfl) (by kernel_rfl) (by kernel_rfl) (fun _ _ _ h => h) (v := ?v20c2) (Or.inl ⟨by rfl, ?y20c2⟩) (by assumption) ?r20c2
                case y20c2 => (intro w hSw; (try dsimp only at hSw); go_simp; (try with_reducible rfl))
                simp only [Act.put, List.setIfInBounds_toArray, List.set_cons_zero, List.set_cons_succ]
                refine wpAnyH_done (by kernel_rfl) ?_ _
                subst hnpp
                have HBN := Lib.hid (HBO.out.trans (HK.out.mono hsz2))
                clear xq xb v0
                go_wp2
                go_roundw
                case rel => exact ⟨op + 1, by omega, by omega, by go_num, HNK2, HBN⟩
                case measure => simp [intOf]; omega
          · have e1 : (wd.toList == (bs p0).toList) = false := by rw [hcm]; exact decide_eq_false hm
            have HNK2 : Hid (∀ k, 1 ≤ k → k < op + 1 → ¬ (opW.getD k [] = p0 ∧ r.ps ≠ [] ∧ l.length = manyM k)) := Lib.hid (fun k h1 h2 h3 => by
              by_cases hk : k < op
              · exact HNK.out k h1 hk h3
              · obtain rfl : k = op := by omega
                exact hm h3.1)
            generalize bs p0 = q0 at *
            clear hcm hm
            go_upto_region 21 with (fail)
            have hwN : w.heap.size < wr.heap.size := by have := blkLt HX3.out; omega
            generalize hnpp : r.ps.length = np at *
            refine wp_region_held_drew (S := fun w' => w'.cell? ⟨gs, 0, none⟩ = some (.string q0) ∧ w'.cell? ⟨w.heap.size, 0, none⟩ = some (.slice AP np cP)) (by kernel_rfl) ⟨xq, xb⟩ (fun hHeld => ?_)
            refine wpAnyH_take (i := 1) (oi := ⟨some 82, _, _, _, _, _⟩) rfl (by kernel_rfl) (by kernel_rfl) (by kernel_rfl) (fun _ _ _ h => h) (v := ?v1a1) (Or.inl ⟨by rfl, ?y1a1⟩) (by assumption) ?r1a1
            case y1a1 => (intro w hSw; (try dsimp only at hSw); go_simp; (try with_reducible rfl))
            simp only [Act.put, List.setIfInBounds_toArray, List.set_cons_zero, List.set_cons_succ]
            refine wpAnyH_take (i := 4) (oi := ⟨some 85, _, _, _, _, _⟩) rfl (by kernel_rfl) (by kernel_rfl) (by kernel_rfl) (fun _ _ _ h => h) (v := ?v4a1) (Or.inl ⟨by rfl, ?y4a1⟩) (by assumption) ?r4a1
            case y4a1 => (intro w hSw; (try dsimp only at hSw); go_simp; (try with_reducible rfl))
            simp only [Act.put, List.setIfInBounds_toArray, List.set_cons_zero, List.set_cons_succ]
            refine wpAnyH_take (i := 5) (oi := ⟨some 86, _, _, _, _, _⟩) rfl (by kernel_rfl) (by kernel_rfl) (by kernel_rfl) (fun _ _ _ h => h) (v := ?v5a1) (Or.inl ⟨by rfl, ?y5a1⟩) (by assumption) ?r5a1
            case y5a1 => (intro w hSw; (try dsimp only at hSw); go_simp; (try with_reducible rfl))
            simp only [Act.put, List.setIfInBounds_toArray, List.set_cons_zero, List.set_cons_succ]
            refine wpAnyH_take (i := 6) (oi := ⟨some 87, _, _, _, _, _⟩) rfl (by kernel_rfl) (by kernel_rfl) (by kernel_rfl) (fun _ _ _ h => h) (v := ?v6a1) (Or.inl ⟨by rfl, ?y6a1⟩) (by assumption) ?r6a1
            case y6a1 => (intro w hSw; (try dsimp only at hSw); go_simp; (try with_reducible rfl))
            simp only [Act.put, List.setIfInBounds_toArray, List.set_cons_zero, List.set_cons_succ]
            refine wpAnyH_ready (rs := [0]) (by kernel_rfl) (by simp) ?_
            refine AllReadyH.cons rfl (fun K hK => ?_) AllReadyH.nil
            go_simp
            refine (HWD.out _).mono ?_
            rintro e w6 ⟨rfl, hwdc, hb, hlt6⟩
            have HK := Lib.hid (HK.out.trans (hb.mono HK.out.size))
            have xq : w6.cell? ⟨gs, 0, none⟩ = some (.string q0) := keepC hb xq (by show gs < wr.heap.size; omega)
            have xb : w6.cell? ⟨w.heap.size, 0, none⟩ = some (.slice AP np cP) := keepC hb xb (by show w.heap.size < wr.heap.size; omega)
            have v0 : w6.cell? ⟨wr.heap.size, op, none⟩ = some (.string wd) := (hwdc op (by omega)).trans (by rw [← HWDE.out])
            have hz6 : wr.heap.size ≤ w6.heap.size := Nat.le_of_lt hlt6
            clear hb hwdc hHeld
            go_simp
            refine hK.out _ _ ⟨xq, xb⟩ (fun hHeld => ?_)
            clear hK K
            try simp only [Act.put, List.setIfInBounds_toArray, List.set_cons_zero, List.set_cons_succ]
            refine wpAnyH_take (i := 2) (oi := ⟨some 83, _, _, _, _, _⟩) rfl (by kernel_rfl) (by kernel_rfl) (by kernel_rfl) (fun _ _ _ h => h) (v := ?v2a1) (Or.inl ⟨by rfl, ?y2a1⟩) (by assumption) ?r2a1
            case y2a1 => (intro w hSw; (try dsimp only at hSw); go_simp; (try with_reducible rfl))
            simp only [Act.put, List.setIfInBounds_toArray, List.set_cons_zero, List.set_cons_succ]
            refine wpAnyH_ready (rs := [3]) (by kernel_rfl) (by simp) ?_
            refine AllReadyH.cons rfl (fun K hK => ?_) AllReadyH.nil
            go_simp
            clear hHeld
            go_simp
            refine hK.out _ _ ⟨xq, xb⟩ (fun hHeld => ?_)
            clear hK K
            try simp only [Act.put, List.setIfInBounds_toArray, List.set_cons_zero, List.set_cons_succ]
            refine wpAnyH_take (i := 7) (oi := ⟨some 88, _, _, _, _, _⟩) rfl (by kernel_rfl) (by kernel_rfl) (by kernel_rfl) (fun _ _ _ h => h) (v := ?v7a1) (Or.inl ⟨by rfl, ?y7a1⟩) (by assumption) ?r7a1
            case y7a1 => (intro w hSw; (try dsimp only at hSw); go_simp; (try with_reducible rfl))
            simp only [Act.put, List.setIfInBounds_toArray, List.set_cons_zero, List.set_cons_succ]
            refine wpAnyH_take (i := 8) (oi := ⟨some 89, _, _, _, _, _⟩) rfl (by kernel_rfl) (by kernel_rfl) (by kernel_rfl) (fun _ _ _ h => h) (v := ?v8a1) (Or.inl ⟨by rfl, ?y8a1⟩) (by assumption) ?r8a1
            case y8a1 => (intro w hSw; (try dsimp only at hSw); go_simp; (try with_reducible rfl))
            simp only [Act.put, List.setIfInBounds_toArray, List.set_cons_zero, List.set_cons_succ]
            refine wpAnyH_take (i := 9) (oi := ⟨some 90, _, _, _, _, _⟩) (v := undef) rfl (by kernel_rfl) (by kernel_rfl) (by kernel_rfl) (fun _ _ _ h => h) (Or.inr ⟨by rfl, rfl⟩) (by assumption) ?_
            simp only [Act.put, List.setIfInBounds_toArray, List.set_cons_zero, List.set_cons_succ]
            refine wpAnyH_take (i := 10) (oi := ⟨some 91, _, _, _, _, _⟩) (v := undef) rfl (by kernel_rfl) (by kernel_rfl) (by kernel_rfl) (fun _ _ _ h => h) (Or.inr ⟨by rfl, rfl⟩) (by assumption) ?_
            simp only [Act.put, List.setIfInBounds_toArray, List.set_cons_zero, List.set_cons_succ]
            refine wpAnyH_take (i := 11) (oi := ⟨some 92, _, _, _, _, _⟩) (v := undef) rfl (by kernel_rfl) (by kernel_rfl) (by kernel_rfl) (fun _ _ _ h => h) (Or.inr ⟨by rfl, rfl⟩) (by assumption) ?_
            simp only [Act.put, List.setIfInBounds_toArray, List.set_cons_zero, List.set_cons_succ]
            refine wpAnyH_take (i := 12) (oi := ⟨some 93, _, _, _, _, _⟩) (v := undef) rfl (by kernel_rfl) (by kernel_rfl) (by kernel_rfl) (fun _ _ _ h => h) (Or.inr ⟨by rfl, rfl⟩) (by assumption) ?_
            simp only [Act.put, List.setIfInBounds_toArray, List.set_cons_zero, List.set_cons_succ]
            refine wpAnyH_take (i := 13) (oi := ⟨some 94, _, _, _, _, _⟩) rfl (by kernel_rfl) (by kernel_rfl) (by kernel_rfl) (fun _ _ _ h => h) (v := ?v13a1) (Or.inl ⟨by rfl, ?y13a1⟩) (by assumption) ?r13a1
            case y13a1 => (intro w hSw; (try dsimp only at hSw); go_simp; (try with_reducible rfl))
            simp only [Act.put, List.setIfInBounds_toArray, List.set_cons_zero, List.set_cons_succ]
            refine wpAnyH_take (i := 14) (oi := ⟨some 95, _, _, _, _, _⟩) rfl (by kernel_rfl) (by kernel_rfl) (by kernel_rfl) (fun _ _ _ h => h) (v := ?v14a1) (Or.inl ⟨by rfl, ?y14a1⟩) (by assumption) ?r14a1
            case y14a1 => (intro w hSw; (try dsimp only at hSw); go_simp; (try with_reducible rfl))
            simp only [Act.put, List.setIfInBounds_toArray, List.set_cons_zero, List.set_cons_succ]
            refine wpAnyH_take (i := 15) (oi := ⟨some 96, _, _, _, _, _⟩) (v := undef) rfl (by kernel_rfl) (by kernel_rfl) (by kernel_rfl) (fun _ _ _ h => h) (Or.inr ⟨by rfl, rfl⟩) (by assumption) ?_
            simp only [Act.put, List.setIfInBounds_toArray, List.set_cons_zero, List.set_cons_succ]
            refine wpAnyH_take (i := 16) (oi := ⟨some 97, _, _, _, _, _⟩) (v := undef) rfl (by kernel_rfl) (by kernel_rfl) (by kernel_rfl) (fun _ _ _ h => h) (Or.inr ⟨by rfl, rfl⟩) (by assumption) ?_
            simp only [Act.put, List.setIfInBounds_toArray, List.set_cons_zero, List.set_cons_succ]
            refine wpAnyH_take (i := 17) (oi := ⟨some 98, _, _, _, _, _⟩) (v := undef) rfl (by kernel_rfl) (by kernel_rfl) (by kernel_rfl) (fun _ _ _ h => h) (Or.inr ⟨by rfl, rfl⟩) (by assumption) ?_
            simp only [Act.put, List.setIfInBounds_toArray, List.set_cons_zero, List.set_cons_succ]
            refine wpAnyH_take (i := 18) (oi := ⟨some 99, _, _, _, _, _⟩) (v := undef) rfl (by kernel_rfl) (by kernel_rfl) (by kernel_rfl) (fun _ _ _ h => h) (Or.inr ⟨by rfl, rfl⟩) (by assumption) ?_
            simp only [Act.put, List.setIfInBounds_toArray, List.set_cons_zero, List.set_cons_succ]
            refine wpAnyH_take (i := 19) (oi := ⟨some 100, _, _, _, _, _⟩) (v := undef) rfl (by kernel_rfl) (by kernel_rfl) (by kernel_rfl) (fun _ _ _ h => h) (Or.inr ⟨by rfl, rfl⟩) (by assumption) ?_
            simp only [Act.put, List.setIfInBounds_toArray, List.set_cons_zero, List.set_cons_succ]
            refine wpAnyH_take (i := 20) (oi := ⟨some 101, _, _, _, _, _⟩) rfl (by kernel_rfl) (by kernel_rfl) (by kernel_rfl) (fun _ _ _ h => h) (v := ?v20a1) (Or.inl ⟨by rfl, ?y20a1⟩) (by assumption) ?r20a1
            case y20a1 => (intro w hSw; (try dsimp only at hSw); go_simp; (try with_reducible rfl))
            simp only [Act.put, List.setIfInBounds_toArray, List.set_cons_zero, List.set_cons_succ]
            refine wpAnyH_done (by kernel_rfl) ?_ _
            subst hnpp
            have HBN := Lib.hid (HBO.out.trans (HK.out.mono hsz2))
            clear xq xb v0
            go_wp2
            go_roundw
            case rel => exact ⟨op + 1, by omega, by omega, by go_num, HNK2, HBN⟩
            case measure => simp [intOf]; omega
        · obtain rfl : op = 30 := by omega
          have HNN : Hid (lineR r P = none) := Lib.hid (HNOI.out (by
            by_cases h1 : r.ps = []
            · exact .inl h1
            · by_cases h2 : opM p0 = 0
              · exact .inr (.inl h2)
              · refine .inr (.inr fun h3 => ?_)
                have hle := opM_le p0
                exact HNK.out (opM p0) (by omega) (by omega) ⟨opM_word' h2, h1, h3⟩))
          have HXE := Lib.hid ((HBO.out.block _ (blkLt HX2.out)).trans HX2.out)
          have HYE := Lib.hid ((HBO.out.block _ (blkLt HY2.out)).trans HY2.out)
          have x0 := cellC HXE.out 0
          have x1 := cellC HXE.out 1
          have y0 := cellC HYE.out 0
          have y1 := cellC HYE.out 1
          have f0 := frzL HYE.out 0
          have f1 := frzL HYE.out 1
          obtain ⟨p0', p1', pb⟩ := putL (u := .slice AP r.ps.length cP) (v := .slice AI r.is.length cI) HYE.out
          have HPB := Lib.hid ((HB2.out.trans (HBO.out.mono HB2.out.size)).trans (pb.mono (by omega)))
          clear pb
          go_wp2
          exact bodyPost_ret (v := .tuple #[.agg #[.slice AP r.ps.length cP, .slice AI r.is.length cI], .bool false]) (by simp [results, Tryz.f14, go_sem, p0', p1']) rfl ⟨HPB.out.mono hB, fun k hk _ _ => HPB.out.block k hk, .inl ⟨HNN.out, rfl⟩⟩
end Go.Proofs.YthkpnbekkoompabGreatDoor
