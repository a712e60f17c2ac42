/-
  rewindref10.Line, walked: a procedure's line.
-/
import Derived.Test.YthkpnbekkoompabGreatDoorCsLbQ
import Derived.Test.YthkpnbekkoompabGreatDoorCpCQ
import Derived.Deep.RegionLaw
import Derived.Deep.AppendLies
import Derived.BigRegion
import Derived.Deep.RegionHeld3
namespace Go.Proofs.YthkpnbekkoompabGreatDoor
open Go.RowKit

theorem cellH {w w' : World} {g o : Nat} {u : Value} (h : w'.heap[g]? = w.heap[g]?) (hc : w.cell? ⟨g, o, none⟩ = some u) : w'.cell? ⟨g, o, none⟩ = some u := by simpa [World.cell?, h] using hc
set_option maxRecDepth 100000 in
set_option maxHeartbeats 8000000 in
theorem refLine_proc (r : CoM) (vP vI : Value) (B : Nat) (s : List UInt8) (hs : s.length ≤ 20000) (w : World) (hP : w.ownsRow B 51 6 vP r.ps.length (flatP r.ps)) (hI : w.ownsRow B 55 3 vI r.is.length (flatI r.is)) (hB : B ≤ w.heap.size) (hn1 : r.ps.length ≤ 100000) (_hn2 : r.is.length ≤ 100000) (hpr : (splitL s).getD 0 [] = procB) :
    Calls Tryz.prog 14 #[.agg #[vP, vI], .string (bs s)] w (LnP B vP vI r (lineR r (splitL s)) w) := by
  obtain ⟨i0, hi0, hz0, hz1, hz2⟩ := info_parts Tryz.infoInt
  obtain ⟨iP, hP0, hP1, hP2, hP3⟩ := info_parts Tryz.infoRP
  obtain ⟨AP, cP, rfl⟩ := own_sliceC hP
  obtain ⟨AI, cI, rfl⟩ := own_sliceC hI
  have HP := Lib.hid hP
  have HI := Lib.hid hI
  have HPR := Lib.hid hpr
  have HSP := Lib.hid (fun W => refSplit_calls s (by omega) W)
  have hne := splitT_ne s
  have hpl := splitL_sz s
  obtain ⟨P, hPs⟩ : ∃ P, P = splitL s := ⟨_, rfl⟩
  have HPL : Hid (∀ p ∈ P, p.length ≤ 20000) := Lib.hid (fun p hp => by rw [hPs] at hp; have := hpl.2 p hp; omega)
  have hnp : P.length ≤ 20001 := by rw [hPs]; omega
  have hnp1 : 0 < P.length := by rw [hPs]; exact List.length_pos_iff.2 hne
  unfold RsP at HSP
  rw [← hPs] at HSP HPR ⊢
  clear hP hI hpr hne hpl hPs hs
  have HB0 := Lib.hid (((Below.refl w.heap.size w).alloc (Nat.le_refl _) (.cells #[.slice AP r.ps.length cP, .slice AI r.is.length cI] 33)).alloc (by simp) (.cells #[.slice none 0 0, .slice none 0 0] 33))
  have HX := Lib.hid ((Below.heap_alloc (w.alloc (.cells #[.slice AP r.ps.length cP, .slice AI r.is.length cI] 33)) (.cells #[.slice none 0 0, .slice none 0 0] 33) w.heap.size (by simp)).trans (heapOne w #[.slice AP r.ps.length cP, .slice AI r.is.length cI] 33))
  have hy := heapOne (w.alloc (.cells #[.slice AP r.ps.length cP, .slice AI r.is.length cI] 33)) #[.slice none 0 0, .slice none 0 0] 33
  rw [World.size_alloc] at hy
  have HY := Lib.hid hy
  clear hy
  go_enter Tryz.func14, Tryz.ntmps14
  go_wp2_with fail
  generalize (w.alloc (.cells #[.slice AP r.ps.length cP, .slice AI r.is.length cI] 33)).alloc (.cells #[.slice none 0 0, .slice none 0 0] 33) = W0 at *
  have hW0 : w.heap.size + 1 < W0.heap.size := blkLt HY.out
  have HBX0 : Hid (Bx (.slice AP r.ps.length cP) (.slice AI r.is.length cI) w W0) := Lib.hid ⟨HB0.out, HX.out, HY.out⟩
  refine (HSP.out W0).mono ?_
  rintro e w1 ⟨hB1, v, rfl, hrow⟩
  have HBX1 := Lib.hid (HBX0.out.step hB1)
  obtain ⟨gs, cs, rfl, hgs1, hgs2, hcs1, hcs2, hcell⟩ := own_cellC hrow hnp1
  have HCL : Hid (∀ j (h : j < P.length), w1.cell? ⟨gs, j, none⟩ = some (.string (bs P[j]))) := Lib.hid (fun j h => by rw [hcell j h]; simp [strsP, h])
  unfold maxLen at hcs2
  clear hB1 hrow hcell HSP HB0 HX HY HBX0
  have x0 : w1.cell? ⟨gs, 0, none⟩ = some (.string (bs P[0])) := HCL.out 0 hnp1
  have e0 : ((bs P[0]).toList == [112, 114, 111, 99]) = true := by
    rw [ByteArray.toList_eq, bs_toList]
    refine beq_iff_eq.2 ?_
    have := HPR.out
    rw [List.getD_eq_getElem?_getD, List.getElem?_eq_getElem hnp1] at this
    exact this
  have k1 : (0 : Int) < (P.length : Int) := by omega
  by_cases h5 : P.length = 5
  rotate_left
  · have HNO : Hid (lineR r P = none) := Lib.hid (lineR_pn HPR.out (fun h => h5 h.1))
    have e1 : ((P.length : Int) == 5) = false := beq_eq_false_iff_ne.2 (by omega)
    have e2 : (P.length == 5) = false := beq_eq_false_iff_ne.2 h5
    have e3 : ((P.length : Int) != 5) = true := by simp [bne, e1]
    have e4 : (P.length != 5) = true := by simp [bne, e2]
    have q0 := cellC HBX1.out.c 0
    have q1 := cellC HBX1.out.c 1
    have y0 := cellC HBX1.out.r 0
    have y1 := cellC HBX1.out.r 1
    have f0 := frzL HBX1.out.r 0
    have f1 := frzL HBX1.out.r 1
    obtain ⟨p0, p1, pb⟩ := putL (u := .slice AP r.ps.length cP) (v := .slice AI r.is.length cI) HBX1.out.r
    have HPB := Lib.hid (HBX1.out.low.trans (pb.mono (by omega)))
    clear pb h5
    go_wp2
    exact bodyPost_ret (v := .tuple #[.agg #[.slice AP r.ps.length cP, .slice AI r.is.length cI], .bool false]) (by simp [results, Tryz.f14, go_sem, p0, p1]) rfl ⟨HPB.out.mono hB, fun k hk _ _ => HPB.out.block k hk, .inl ⟨HNO.out, rfl⟩⟩
  · have e1 : ((P.length : Int) == 5) = true := beq_iff_eq.2 (by omega)
    have e2 : (P.length == 5) = true := beq_iff_eq.2 h5
    have e3 : ((P.length : Int) != 5) = false := by simp [bne, e1]
    have e4 : (P.length != 5) = false := by simp [bne, e2]
    have hg1 : P.getD 1 [] = P[1] := by rw [List.getD_eq_getElem?_getD, List.getElem?_eq_getElem (by omega)]; rfl
    have HG1 := Lib.hid hg1
    have x1 : w1.cell? ⟨gs, 1, none⟩ = some (.string (bs P[1])) := HCL.out 1 (by omega)
    have HIN := Lib.hid (fun W => refIsName_calls P[1] (HPL.out _ (List.getElem_mem _)) W)
    have k2 : (1 : Int) < (P.length : Int) := by omega
    have H5 := Lib.hid h5
    generalize P[1] = t1 at *
    generalize P[0] = t0 at *
    clear hg1 h5
    cases hnm : isNm t1 with
    | false =>
      have HNO : Hid (lineR r P = none) := Lib.hid (lineR_pn HPR.out (fun h => by rw [HG1.out, hnm] at h; cases h.2))
      rw [hnm] at HIN
      clear hnm
      go_wp2_with fail
      refine (HIN.out _).mono ?_
      rintro e w2 ⟨rfl, hb⟩
      have HBX2 := Lib.hid (HBX1.out.step hb)
      clear hb
      have q0 := cellC HBX2.out.c 0
      have q1 := cellC HBX2.out.c 1
      have y0 := cellC HBX2.out.r 0
      have y1 := cellC HBX2.out.r 1
      have f0 := frzL HBX2.out.r 0
      have f1 := frzL HBX2.out.r 1
      obtain ⟨p0, p1, pb⟩ := putL (u := .slice AP r.ps.length cP) (v := .slice AI r.is.length cI) HBX2.out.r
      have HPB := Lib.hid (HBX2.out.low.trans (pb.mono (by omega)))
      clear pb
      go_wp2
      exact bodyPost_ret (v := .tuple #[.agg #[.slice AP r.ps.length cP, .slice AI r.is.length cI], .bool false]) (by simp [results, Tryz.f14, go_sem, p0, p1]) rfl ⟨HPB.out.mono hB, fun k hk _ _ => HPB.out.block k hk, .inl ⟨HNO.out, rfl⟩⟩
    | true =>
      rw [hnm] at HIN
      have HNM := Lib.hid hnm
      clear hnm
      go_wp2_with fail
      refine (HIN.out _).mono ?_
      rintro e w2 ⟨rfl, hb⟩
      have HBX2 := Lib.hid (HBX1.out.step hb)
      have HK2 := Lib.hid hb
      have hgs3 : gs < w2.heap.size := Nat.lt_of_lt_of_le hgs2 hb.size
      clear hb
      go_wp2_with fail
      go_loopw [7, 9] (fun v i wr => ∃ (j : Nat) (l : List Int), 2 ≤ j ∧ j ≤ P.length ∧ l.length + 2 = j ∧ i = .int .i64 j ∧ Hid (numsM ((P.drop 2).take (j - 2)) = some l) ∧ Hid (wr.ownsRow w2.heap.size 3 1 v l.length (intsL l)) ∧ Hid (Below w2.heap.size w2 wr)) (fun _ i _ => P.length - (intOf i).toNat)
      case atStart => exact ⟨2, [], by omega, by have := H5.out; omega, rfl, rfl, Lib.hid rfl, Lib.hid (World.ownsRow_nil _ _ _ _), Lib.hid (Below.refl _ _)⟩
      case round =>
        obtain ⟨j, l, hj1, hj2, hlj, rfl, HN, HV, HB⟩ := hrel
        obtain ⟨An, cn, hvn⟩ := own_sliceC HV.out
        subst hvn
        have hsz1 : w2.heap.size ≤ wr.heap.size := HB.out.size
        by_cases hjt : j < P.length
        · have xj : wr.cell? ⟨gs, j, none⟩ = some (.string (bs P[j])) := keepC HB.out (keepC HK2.out (HCL.out j hjt) hgs2) hgs3
          have HNU := Lib.hid (number_calls P[j] (Nat.le_trans (HPL.out _ (List.getElem_mem hjt)) (by omega)) wr)
          have hns := nums_step hjt hj1 HN.out
          have HSOME := Lib.hid hns.1
          have HNONE := Lib.hid hns.2
          unfold NuP at HNU
          generalize P[j] = pj at *
          have k0 : (0 : Int) ≤ (j : Int) := by omega
          have kj : (j : Int) < (P.length : Int) := by omega
          clear hns
          go_wp2_with fail
          refine HNU.out.mono ?_
          rintro e w5 ⟨hB5, h5⟩
          have HB5 := Lib.hid (HB.out.trans (hB5.mono (by omega)))
          have HV5 := Lib.hid (own_keepC HV.out fun g hg => hB5.block g (own_ltC HV.out g hg).2)
          have hz5 : w2.heap.size ≤ w5.heap.size := HB5.out.size
          clear hB5 HNU xj
          rcases h5 with ⟨m, hm, rfl⟩ | ⟨hm, m, rfl⟩
          · have HN2 := Lib.hid (HSOME.out m hm)
            clear hm
            go_wp2_with (at_builtin; refine wpList_append_own _ rfl _ _ 52 rfl w2.heap.size 3 i0 (.int .i64 0) 1 8 Tryz.underlying52 hi0 hz0 hz1 hz2 rfl (by decide) (.slice An l.length cn) l.length (intsL l) rfl (HV5.out.alloc _) ⟨w5.heap.size, 0, none⟩ 1 1 [.int .i64 m] (by rfl) rfl (newsI w5 (.int .i64 m) 3 w5.heap.size rfl) (oneI _) (by unfold maxLen; omega) (by omega) (by simp; omega) ?_; intro v' w6 hown6 hgrow hnil; clear hnil; have HG6 := Lib.hid hgrow; have H6 := Lib.hid hown6; clear hgrow hown6)
            go_roundw
            case rel => exact ⟨j + 1, l ++ [m], by omega, by omega, by simp; omega, by go_num, HN2, Lib.hid (by rw [intsL_snoc, List.length_append]; exact H6.out), Lib.hid (below_appC (HB5.out.alloc hz5 _) (Nat.le_refl _) (HV5.out.alloc _) HG6.out)⟩
            case measure => simp [intOf]; omega
          · have HNO : Hid (lineR r P = none) := Lib.hid (lineR_pb HPR.out (HNONE.out hm))
            clear hm
            have HBX5 := Lib.hid (HBX2.out.step HB5.out)
            have q0 := cellC HBX5.out.c 0
            have q1 := cellC HBX5.out.c 1
            have y0 := cellC HBX5.out.r 0
            have y1 := cellC HBX5.out.r 1
            have f0 := frzL HBX5.out.r 0
            have f1 := frzL HBX5.out.r 1
            obtain ⟨p0, p1, pb⟩ := putL (u := .slice AP r.ps.length cP) (v := .slice AI r.is.length cI) HBX5.out.r
            have HPB := Lib.hid (HBX5.out.low.trans (pb.mono (by omega)))
            clear pb
            go_wp2
            exact bodyPost_ret (v := .tuple #[.agg #[.slice AP r.ps.length cP, .slice AI r.is.length cI], .bool false]) (by simp [results, Tryz.f14, go_sem, p0, p1]) rfl ⟨HPB.out.mono hB, fun k hk _ _ => HPB.out.block k hk, .inl ⟨HNO.out, rfl⟩⟩
        · obtain rfl : j = P.length := by omega
          have hnl : numsM (P.drop 2) = some l := by
            have := HN.out
            rwa [List.take_of_length_le (by rw [List.length_drop]; omega)] at this
          have HBXr := Lib.hid (HBX2.out.step HB.out)
          have h5 := H5.out
          have hl3 : l.length = 3 := by omega
          rw [hl3] at HV ⊢
          obtain ⟨n0, n1, n2, rfl⟩ : ∃ a b d, l = [a, b, d] := by
            match l, hl3 with
            | [a, b, d], _ => exact ⟨a, b, d, rfl⟩
          have HR := Lib.hid (lineR_py (c := r) HPR.out h5 HG1.out HNM.out hnl)
          obtain ⟨g, capn, hve, hgb, hcap3, hcapm, hnc⟩ := ownForm (n := 2) HV.out
          injection hve with hv1 hvl hv2
          clear hvl
          subst hv1 hv2
          have m0 : wr.cell? ⟨g, 0, none⟩ = some (.int .i64 n0) := hnc 0 _ rfl
          have m1 : wr.cell? ⟨g, 1, none⟩ = some (.int .i64 n1) := hnc 1 _ rfl
          have m2 : wr.cell? ⟨g, 2, none⟩ = some (.int .i64 n2) := hnc 2 _ rfl
          have x0 : wr.cell? ⟨w.heap.size, 0, none⟩ = some (.slice AP r.ps.length cP) := cellC HBXr.out.c 0
          have x1 : wr.cell? ⟨w.heap.size, 1, none⟩ = some (.slice AI r.is.length cI) := cellC HBXr.out.c 1
          have y1 : wr.cell? ⟨gs, 1, none⟩ = some (.string (bs t1)) := keepC HB.out (keepC HK2.out (by assumption) hgs2) hgs3
          have HBA := Lib.hid (((Below.refl wr.heap.size wr).drew).alloc (by show wr.heap.size ≤ wr.heap.size; omega) (.cells (prC ⟨t1, r.is.length, 0, n0, n1, n2⟩).toArray 51))
          have HNB := Lib.hid (World.news_of_block (heapOne wr.drew (prC ⟨t1, r.is.length, 0, n0, n1, n2⟩).toArray 51))
          have HBXA := Lib.hid (HBXr.out.step HBA.out)
          have HOA := Lib.hid (own_keepC HP.out fun g hg => HBXA.out.low.block g (own_ltC HP.out g hg).2)
          have HON := Lib.hid (onePr ⟨t1, r.is.length, 0, n0, n1, n2⟩)
          have HGN := Lib.hid (fun w4 (hg : (wr.drew.alloc (.cells (prC ⟨t1, r.is.length, 0, n0, n1, n2⟩).toArray 51)).grownBy w4 (Value.slice AP r.ps.length cP).ownBlock) => HBXA.out.grown (fun g hg => (own_ltC HP.out g hg).2) hg)
          have HGB := Lib.hid (fun w4 (hg : (wr.drew.alloc (.cells (prC ⟨t1, r.is.length, 0, n0, n1, n2⟩).toArray 51)).grownBy w4 (Value.slice AP r.ps.length cP).ownBlock) (q o : Nat) (u : Value) (h1 : w.heap.size ≤ q) (h2 : q < wr.heap.size) (h3 : wr.cell? ⟨q, o, none⟩ = some u) => cellH ((hg.block q (by have := HBA.out.size; omega) (fun e => by have := (own_ltC HP.out q e.symm).2; omega)).trans (HBA.out.block q h2)) h3)
          have hg3 : g < wr.heap.size := ltC m0
          have hww2 : w.heap.size + 1 < w2.heap.size := blkLt HBX2.out.r
          have x0n : ∀ o, (wr.alloc o).drew.cell? ⟨w.heap.size, 0, none⟩ = some (.slice AP r.ps.length cP) := fun o => newC x0 o
          have x1n : ∀ o, (wr.alloc o).drew.cell? ⟨w.heap.size, 1, none⟩ = some (.slice AI r.is.length cI) := fun o => newC x1 o
          have y1n : ∀ o, (wr.alloc o).drew.cell? ⟨gs, 1, none⟩ = some (.string (bs t1)) := fun o => newC y1 o
          have m0n : ∀ o, (wr.alloc o).drew.cell? ⟨g, 0, none⟩ = some (.int .i64 n0) := fun o => newC m0 o
          have m1n : ∀ o, (wr.alloc o).drew.cell? ⟨g, 1, none⟩ = some (.int .i64 n1) := fun o => newC m1 o
          have m2n : ∀ o, (wr.alloc o).drew.cell? ⟨g, 2, none⟩ = some (.int .i64 n2) := fun o => newC m2 o
          clear hnc hlj HN hnl hl3 hj1 hj2 HV h5
          go_wp2
          -- REGION refine step_append_lies _ rfl (.tmp 56) (.tmp 73) 30 rfl B 51 iP (.agg #[.string ⟨#[]⟩, .int .i64 0, .int .i64 0, .int .i64 0, .int .i64 0, .int .i64 0]) 6 56 Tryz.underlying30 hP0 hP1 hP2 hP3 rfl (by decide) (.slice AP r.ps.length cP) r.ps.length (flatP r.ps) (by simp [Act.eval]) HOA.out ⟨wr.heap.size, 0, none⟩ 1 1 (prC ⟨t1, r.is.length, 0, n0, n1, n2⟩) (by simp [Act.eval]) rfl HNB.out HON.out (by decide) (by unfold maxLen; omega) (by omega) (by simp; omega) (wr.heap.size + 1) (by simp) ?_; intro g4 cap4 w4 hown hgrow hat hg4; have HG := Lib.hid hgrow; have HO4 := Lib.hid hown; obtain ⟨b1, b2⟩ := HGN.out _ hgrow; have c0 : w4.cell? ⟨w.heap.size, 0, none⟩ = some (.slice AP r.ps.length cP) := cellC b1 0; have x1 : w4.cell? ⟨w.heap.size, 1, none⟩ = some (.slice AI r.is.length cI) := cellC b1 1; have fc := frzL b1 0; have fx := frzL b1 1; have d0 : w4.cell? ⟨w.heap.size + 1, 0, none⟩ = some (.slice none 0 0) := cellC b2 0; have d1 : w4.cell? ⟨w.heap.size + 1, 1, none⟩ = some (.slice none 0 0) := cellC b2 1; have fd0 := frzL b2 0; have fd1 := frzL b2 1; have y1 := HGB.out _ hgrow _ _ _ (by omega) (by omega) y1; have m0 := HGB.out _ hgrow _ _ _ (by omega) (by omega) m0; have m1 := HGB.out _ hgrow _ _ _ (by omega) (by omega) m1; have m2 := HGB.out _ hgrow _ _ _ (by omega) (by omega) m2; have x1s : ∀ v, (w4.setCell ⟨w.heap.size, 0, none⟩ v).cell? ⟨w.heap.size, 1, none⟩ = some (.slice AI r.is.length cI) := fun v => cellC (setAt w4 w.heap.size 0 v _ _ _ b1) 1; have y1s := fun v => cellH (setNe w4 w.heap.size 0 v gs (by omega)) y1; have m0s := fun v => cellH (setNe w4 w.heap.size 0 v g (by omega)) m0; have m1s := fun v => cellH (setNe w4 w.heap.size 0 v g (by omega)) m1; have m2s := fun v => cellH (setNe w4 w.heap.size 0 v g (by omega)) m2; clear hgrow hown hat b1 b2
          refine wp_region_held_drew (S := fun w' => w'.cell? ⟨w.heap.size, 1, none⟩ = some (.slice AI r.is.length cI) ∧ w'.cell? ⟨gs, 1, none⟩ = some (.string (bs t1)) ∧ w'.cell? ⟨g, 0, none⟩ = some (.int .i64 n0) ∧ w'.cell? ⟨g, 1, none⟩ = some (.int .i64 n1) ∧ w'.cell? ⟨g, 2, none⟩ = some (.int .i64 n2)) (by kernel_rfl) ⟨x1, y1, m0, m1, m2⟩ (fun hHeld => ?_)
          refine wpAnyH_take (i := 0) (oi := ⟨some 55, _, _, _, _, _⟩) rfl (by kernel_rfl) (by kernel_rfl) (by kernel_rfl) (fun _ _ _ h => h) (v := ?v0) (Or.inl ⟨by rfl, ?y0⟩) (by assumption) ?r0
          case y0 => (intro w hSw; (try dsimp only at hSw); go_simp; (try with_reducible rfl))
          simp only [Act.put, List.setIfInBounds_toArray, List.set_cons_zero, List.set_cons_succ]
          refine wpAnyH_take (i := 2) (oi := ⟨some 57, _, _, _, _, _⟩) rfl (by kernel_rfl) (by kernel_rfl) (by kernel_rfl) (fun _ _ _ h => h) (v := ?v2) (Or.inl ⟨by rfl, ?y2⟩) (by assumption) ?r2
          case y2 => (intro w hSw; (try dsimp only at hSw); go_simp; (try with_reducible rfl))
          simp only [Act.put, List.setIfInBounds_toArray, List.set_cons_zero, List.set_cons_succ]
          refine wpAnyH_take (i := 3) (oi := ⟨some 58, _, _, _, _, _⟩) rfl (by kernel_rfl) (by kernel_rfl) (by kernel_rfl) (fun _ _ _ h => h) (v := ?v3) (Or.inl ⟨by rfl, ?y3⟩) (by assumption) ?r3
          case y3 => (intro w hSw; (try dsimp only at hSw); go_simp; (try with_reducible rfl))
          simp only [Act.put, List.setIfInBounds_toArray, List.set_cons_zero, List.set_cons_succ]
          refine wpAnyH_take (i := 4) (oi := ⟨some 59, _, _, _, _, _⟩) rfl (by kernel_rfl) (by kernel_rfl) (by kernel_rfl) (fun _ _ _ h => h) (v := ?v4) (Or.inl ⟨by rfl, ?y4⟩) (by assumption) ?r4
          case y4 => (intro w hSw; (try dsimp only at hSw); go_simp; (try with_reducible rfl))
          simp only [Act.put, List.setIfInBounds_toArray, List.set_cons_zero, List.set_cons_succ]
          refine wpAnyH_take (i := 5) (oi := ⟨some 60, _, _, _, _, _⟩) rfl (by kernel_rfl) (by kernel_rfl) (by kernel_rfl) (fun _ _ _ h => h) (v := ?v5) (Or.inl ⟨by rfl, ?y5⟩) (by assumption) ?r5
          case y5 => (intro w hSw; (try dsimp only at hSw); go_simp; (try with_reducible rfl))
          simp only [Act.put, List.setIfInBounds_toArray, List.set_cons_zero, List.set_cons_succ]
          refine wpAnyH_take (i := 6) (oi := ⟨some 61, _, _, _, _, _⟩) rfl (by kernel_rfl) (by kernel_rfl) (by kernel_rfl) (fun _ _ _ h => h) (v := ?v6) (Or.inl ⟨by rfl, ?y6⟩) (by assumption) ?r6
          case y6 => (intro w hSw; (try dsimp only at hSw); go_simp; (try with_reducible rfl))
          simp only [Act.put, List.setIfInBounds_toArray, List.set_cons_zero, List.set_cons_succ]
          refine wpAnyH_take (i := 7) (oi := ⟨some 62, _, _, _, _, _⟩) rfl (by kernel_rfl) (by kernel_rfl) (by kernel_rfl) (fun _ _ _ h => h) (v := ?v7) (Or.inl ⟨by rfl, ?y7⟩) (by assumption) ?r7
          case y7 => (intro w hSw; (try dsimp only at hSw); go_simp; (try with_reducible rfl))
          simp only [Act.put, List.setIfInBounds_toArray, List.set_cons_zero, List.set_cons_succ]
          refine wpAnyH_take (i := 8) (oi := ⟨some 63, _, _, _, _, _⟩) rfl (by kernel_rfl) (by kernel_rfl) (by kernel_rfl) (fun _ _ _ h => h) (v := ?v8) (Or.inl ⟨by rfl, ?y8⟩) (by assumption) ?r8
          case y8 => (intro w hSw; (try dsimp only at hSw); go_simp; (try with_reducible rfl))
          simp only [Act.put, List.setIfInBounds_toArray, List.set_cons_zero, List.set_cons_succ]
          refine wpAnyH_take (i := 9) (oi := ⟨some 64, _, _, _, _, _⟩) rfl (by kernel_rfl) (by kernel_rfl) (by kernel_rfl) (fun _ _ _ h => h) (v := ?v9) (Or.inl ⟨by rfl, ?y9⟩) (by assumption) ?r9
          case y9 => (intro w hSw; (try dsimp only at hSw); go_simp; (try with_reducible rfl))
          simp only [Act.put, List.setIfInBounds_toArray, List.set_cons_zero, List.set_cons_succ]
          refine wpAnyH_take (i := 10) (oi := ⟨some 65, _, _, _, _, _⟩) rfl (by kernel_rfl) (by kernel_rfl) (by kernel_rfl) (fun _ _ _ h => h) (v := ?v10) (Or.inl ⟨by rfl, ?y10⟩) (by assumption) ?r10
          case y10 => (intro w hSw; (try dsimp only at hSw); go_simp; (try with_reducible rfl))
          simp only [Act.put, List.setIfInBounds_toArray, List.set_cons_zero, List.set_cons_succ]
          refine wpAnyH_take (i := 11) (oi := ⟨some 66, _, _, _, _, _⟩) rfl (by kernel_rfl) (by kernel_rfl) (by kernel_rfl) (fun _ _ _ h => h) (v := ?v11) (Or.inl ⟨by rfl, ?y11⟩) (by assumption) ?r11
          case y11 => (intro w hSw; (try dsimp only at hSw); go_simp; (try with_reducible rfl))
          simp only [Act.put, List.setIfInBounds_toArray, List.set_cons_zero, List.set_cons_succ]
          refine wpAnyH_take (i := 12) (oi := ⟨some 67, _, _, _, _, _⟩) rfl (by kernel_rfl) (by kernel_rfl) (by kernel_rfl) (fun _ _ _ h => h) (v := ?v12) (Or.inl ⟨by rfl, ?y12⟩) (by assumption) ?r12
          case y12 => (intro w hSw; (try dsimp only at hSw); go_simp; (try with_reducible rfl))
          simp only [Act.put, List.setIfInBounds_toArray, List.set_cons_zero, List.set_cons_succ]
          refine wpAnyH_take (i := 13) (oi := ⟨some 68, _, _, _, _, _⟩) rfl (by kernel_rfl) (by kernel_rfl) (by kernel_rfl) (fun _ _ _ h => h) (v := ?v13) (Or.inl ⟨by rfl, ?y13⟩) (by assumption) ?r13
          case y13 => (intro w hSw; (try dsimp only at hSw); go_simp; (try with_reducible rfl))
          simp only [Act.put, List.setIfInBounds_toArray, List.set_cons_zero, List.set_cons_succ]
          refine wpAnyH_take (i := 14) (oi := ⟨some 69, _, _, _, _, _⟩) rfl (by kernel_rfl) (by kernel_rfl) (by kernel_rfl) (fun _ _ _ h => h) (v := ?v14) (Or.inl ⟨by rfl, ?y14⟩) (by assumption) ?r14
          case y14 => (intro w hSw; (try dsimp only at hSw); go_simp; (try with_reducible rfl))
          simp only [Act.put, List.setIfInBounds_toArray, List.set_cons_zero, List.set_cons_succ]
          refine wpAnyH_take (i := 15) (oi := ⟨some 70, _, _, _, _, _⟩) rfl (by kernel_rfl) (by kernel_rfl) (by kernel_rfl) (fun _ _ _ h => h) (v := ?v15) (Or.inl ⟨by rfl, ?y15⟩) (by assumption) ?r15
          case y15 => (intro w hSw; (try dsimp only at hSw); go_simp; (try with_reducible rfl))
          simp only [Act.put, List.setIfInBounds_toArray, List.set_cons_zero, List.set_cons_succ]
          refine wpAnyH_take (i := 16) (oi := ⟨some 71, _, _, _, _, _⟩) rfl (by kernel_rfl) (by kernel_rfl) (by kernel_rfl) (fun _ _ _ h => h) (v := ?v16) (Or.inl ⟨by rfl, ?y16⟩) (by assumption) ?r16
          case y16 => (intro w hSw; (try dsimp only at hSw); go_simp; (try with_reducible rfl))
          simp only [Act.put, List.setIfInBounds_toArray, List.set_cons_zero, List.set_cons_succ]
          refine wpAnyH_take (i := 17) (oi := ⟨some 72, _, _, _, _, _⟩) rfl (by kernel_rfl) (by kernel_rfl) (by kernel_rfl) (fun _ _ _ h => h) (v := ?v17) (Or.inl ⟨by rfl, ?y17⟩) (by assumption) ?r17
          case y17 => (intro w hSw; (try dsimp only at hSw); go_simp; (try with_reducible rfl))
          simp only [Act.put, List.setIfInBounds_toArray, List.set_cons_zero, List.set_cons_succ]
          refine wpAnyH_ready (rs := [1, 18]) (by kernel_rfl) (by simp) ?_
          refine AllReadyH.cons rfl (fun K hK => ?_) (AllReadyH.cons rfl (fun K hK => ?_) AllReadyH.nil)
          · go_simp
            refine hK.out _ _ ⟨x1, y1, m0, m1, m2⟩ (fun hHeld => ?_)
            clear hK K
            try simp only [Act.put, List.setIfInBounds_toArray, List.set_cons_zero, List.set_cons_succ]
            refine wpAnyH_ready (rs := [18]) (by kernel_rfl) (by simp) ?_
            refine AllReadyH.cons rfl (fun K hK => ?_) AllReadyH.nil
            go_simp
            refine hK.out _ _ ⟨x1n _, y1n _, m0n _, m1n _, m2n _⟩ (fun hHeld => ?_)
            clear hK K
            try simp only [Act.put, List.setIfInBounds_toArray, List.set_cons_zero, List.set_cons_succ]
            refine wpAnyH_ready (rs := [19]) (by kernel_rfl) (by simp) ?_
            refine AllReadyH.cons rfl (fun K hK => ?_) AllReadyH.nil
            refine step_append_lies _ rfl (.tmp 56) (.tmp 73) 30 rfl B 51 iP (.agg #[.string ⟨#[]⟩, .int .i64 0, .int .i64 0, .int .i64 0, .int .i64 0, .int .i64 0]) 6 56 Tryz.underlying30 hP0 hP1 hP2 hP3 rfl (by decide) (.slice AP r.ps.length cP) r.ps.length (flatP r.ps) (by simp [Act.eval]) HOA.out ⟨wr.heap.size, 0, none⟩ 1 1 (prC ⟨t1, r.is.length, 0, n0, n1, n2⟩) (by simp [Act.eval]) rfl HNB.out HON.out (by decide) (by unfold maxLen; omega) (by omega) (by simp; omega) (wr.heap.size + 1) (by simp) ?_; intro g4 cap4 w4 hown hgrow hat hg4; have HG := Lib.hid hgrow; have HO4 := Lib.hid hown; obtain ⟨b1, b2⟩ := HGN.out _ hgrow; have c0 : w4.cell? ⟨w.heap.size, 0, none⟩ = some (.slice AP r.ps.length cP) := cellC b1 0; have x1 : w4.cell? ⟨w.heap.size, 1, none⟩ = some (.slice AI r.is.length cI) := cellC b1 1; have fc := frzL b1 0; have fx := frzL b1 1; have d0 : w4.cell? ⟨w.heap.size + 1, 0, none⟩ = some (.slice none 0 0) := cellC b2 0; have d1 : w4.cell? ⟨w.heap.size + 1, 1, none⟩ = some (.slice none 0 0) := cellC b2 1; have fd0 := frzL b2 0; have fd1 := frzL b2 1; have y1 := HGB.out _ hgrow _ _ _ (by omega) (by omega) y1; have m0 := HGB.out _ hgrow _ _ _ (by omega) (by omega) m0; have m1 := HGB.out _ hgrow _ _ _ (by omega) (by omega) m1; have m2 := HGB.out _ hgrow _ _ _ (by omega) (by omega) m2; have x1s : ∀ v, (w4.setCell ⟨w.heap.size, 0, none⟩ v).cell? ⟨w.heap.size, 1, none⟩ = some (.slice AI r.is.length cI) := fun v => cellC (setAt w4 w.heap.size 0 v _ _ _ b1) 1; have y1s := fun v => cellH (setNe w4 w.heap.size 0 v gs (by omega)) y1; have m0s := fun v => cellH (setNe w4 w.heap.size 0 v g (by omega)) m0; have m1s := fun v => cellH (setNe w4 w.heap.size 0 v g (by omega)) m1; have m2s := fun v => cellH (setNe w4 w.heap.size 0 v g (by omega)) m2; clear hgrow hown hat b1 b2
            refine hK.out _ _ ⟨x1, y1, m0, m1, m2⟩ (fun hHeld => ?_)
            clear hK K
            try simp only [Act.put, List.setIfInBounds_toArray]
            refine wpAnyH_take (i := 20) (oi := ⟨some 75, _, _, _, _, _⟩) rfl (by kernel_rfl) (by kernel_rfl) (by kernel_rfl) (fun _ _ _ h => h) (v := ?v20a) (Or.inl ⟨by rfl, ?y20a⟩) (by assumption) ?r20a
            case y20a => (intro w hSw; (try dsimp only at hSw); go_simp; (try with_reducible rfl))
            simp only [Act.put]
            refine wpAnyH_ready (rs := [21]) (by kernel_rfl) (by simp) ?_
            refine AllReadyH.cons rfl (fun K hK => ?_) AllReadyH.nil
            go_simp
            refine hK.out _ _ ⟨x1s _, y1s _, m0s _, m1s _, m2s _⟩ (fun hHeld => ?_)
            clear hK K
            try simp only [Act.put, List.setIfInBounds_toArray, List.set_cons_zero, List.set_cons_succ]
            refine wpAnyH_done (by kernel_rfl) ?_ _
            obtain ⟨p0, p1, hln⟩ := HBXA.out.doneP hB HP.out HI.out HO4.out HG.out _ rfl
            have HLN := Lib.hid hln
            clear hln
            go_wp2
            rw [HR.out]
            exact bodyPost_ret (v := .tuple #[.agg #[.slice (some ⟨g4, 0, none⟩) (r.ps.length + 1) cap4, .slice AI r.is.length cI], .bool true]) (by simp [results, Tryz.f14, go_sem, p0, p1]) rfl HLN.out
          · go_simp
            refine hK.out _ _ ⟨x1n _, y1n _, m0n _, m1n _, m2n _⟩ (fun hHeld => ?_)
            clear hK K
            try simp only [Act.put, List.setIfInBounds_toArray, List.set_cons_zero, List.set_cons_succ]
            refine wpAnyH_ready (rs := [1]) (by kernel_rfl) (by simp) ?_
            refine AllReadyH.cons rfl (fun K hK => ?_) AllReadyH.nil
            go_simp
            refine hK.out _ _ ⟨x1n _, y1n _, m0n _, m1n _, m2n _⟩ (fun hHeld => ?_)
            clear hK K
            try simp only [Act.put, List.setIfInBounds_toArray, List.set_cons_zero, List.set_cons_succ]
            refine wpAnyH_ready (rs := [19]) (by kernel_rfl) (by simp) ?_
            refine AllReadyH.cons rfl (fun K hK => ?_) AllReadyH.nil
            refine step_append_lies _ rfl (.tmp 56) (.tmp 73) 30 rfl B 51 iP (.agg #[.string ⟨#[]⟩, .int .i64 0, .int .i64 0, .int .i64 0, .int .i64 0, .int .i64 0]) 6 56 Tryz.underlying30 hP0 hP1 hP2 hP3 rfl (by decide) (.slice AP r.ps.length cP) r.ps.length (flatP r.ps) (by simp [Act.eval]) HOA.out ⟨wr.heap.size, 0, none⟩ 1 1 (prC ⟨t1, r.is.length, 0, n0, n1, n2⟩) (by simp [Act.eval]) rfl HNB.out HON.out (by decide) (by unfold maxLen; omega) (by omega) (by simp; omega) (wr.heap.size + 1) (by simp) ?_; intro g4 cap4 w4 hown hgrow hat hg4; have HG := Lib.hid hgrow; have HO4 := Lib.hid hown; obtain ⟨b1, b2⟩ := HGN.out _ hgrow; have c0 : w4.cell? ⟨w.heap.size, 0, none⟩ = some (.slice AP r.ps.length cP) := cellC b1 0; have x1 : w4.cell? ⟨w.heap.size, 1, none⟩ = some (.slice AI r.is.length cI) := cellC b1 1; have fc := frzL b1 0; have fx := frzL b1 1; have d0 : w4.cell? ⟨w.heap.size + 1, 0, none⟩ = some (.slice none 0 0) := cellC b2 0; have d1 : w4.cell? ⟨w.heap.size + 1, 1, none⟩ = some (.slice none 0 0) := cellC b2 1; have fd0 := frzL b2 0; have fd1 := frzL b2 1; have y1 := HGB.out _ hgrow _ _ _ (by omega) (by omega) y1; have m0 := HGB.out _ hgrow _ _ _ (by omega) (by omega) m0; have m1 := HGB.out _ hgrow _ _ _ (by omega) (by omega) m1; have m2 := HGB.out _ hgrow _ _ _ (by omega) (by omega) m2; have x1s : ∀ v, (w4.setCell ⟨w.heap.size, 0, none⟩ v).cell? ⟨w.heap.size, 1, none⟩ = some (.slice AI r.is.length cI) := fun v => cellC (setAt w4 w.heap.size 0 v _ _ _ b1) 1; have y1s := fun v => cellH (setNe w4 w.heap.size 0 v gs (by omega)) y1; have m0s := fun v => cellH (setNe w4 w.heap.size 0 v g (by omega)) m0; have m1s := fun v => cellH (setNe w4 w.heap.size 0 v g (by omega)) m1; have m2s := fun v => cellH (setNe w4 w.heap.size 0 v g (by omega)) m2; clear hgrow hown hat b1 b2
            refine hK.out _ _ ⟨x1, y1, m0, m1, m2⟩ (fun hHeld => ?_)
            clear hK K
            try simp only [Act.put, List.setIfInBounds_toArray]
            refine wpAnyH_take (i := 20) (oi := ⟨some 75, _, _, _, _, _⟩) rfl (by kernel_rfl) (by kernel_rfl) (by kernel_rfl) (fun _ _ _ h => h) (v := ?v20b) (Or.inl ⟨by rfl, ?y20b⟩) (by assumption) ?r20b
            case y20b => (intro w hSw; (try dsimp only at hSw); go_simp; (try with_reducible rfl))
            simp only [Act.put]
            refine wpAnyH_ready (rs := [21]) (by kernel_rfl) (by simp) ?_
            refine AllReadyH.cons rfl (fun K hK => ?_) AllReadyH.nil
            go_simp
            refine hK.out _ _ ⟨x1s _, y1s _, m0s _, m1s _, m2s _⟩ (fun hHeld => ?_)
            clear hK K
            try simp only [Act.put, List.setIfInBounds_toArray, List.set_cons_zero, List.set_cons_succ]
            refine wpAnyH_done (by kernel_rfl) ?_ _
            obtain ⟨p0, p1, hln⟩ := HBXA.out.doneP hB HP.out HI.out HO4.out HG.out _ rfl
            have HLN := Lib.hid hln
            clear hln
            go_wp2
            rw [HR.out]
            exact bodyPost_ret (v := .tuple #[.agg #[.slice (some ⟨g4, 0, none⟩) (r.ps.length + 1) cap4, .slice AI r.is.length cI], .bool true]) (by simp [results, Tryz.f14, go_sem, p0, p1]) rfl HLN.out
          -- NOIGER
end Go.Proofs.YthkpnbekkoompabGreatDoor
