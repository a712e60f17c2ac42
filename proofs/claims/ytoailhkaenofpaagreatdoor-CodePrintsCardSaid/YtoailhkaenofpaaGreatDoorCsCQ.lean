/-
  rewindref10.Print: a document's text.
-/
import Derived.Test.YtoailhkaenofpaaGreatDoorQ09
import Derived.Test.YtoailhkaenofpaaGreatDoorCpQQ
import Derived.Deep.RegionHeld3
import Derived.Deep.CutRange
namespace Go.Proofs.YtoailhkaenofpaaGreatDoor
open Go.RowKit

theorem catC (a b : List UInt8) : bs a ++ bs b = bs (a ++ b) := WideShapes.bytes_inj (by rw [ByteArray.data_append, Array.toList_append, bs_toList, bs_toList, bs_toList])
theorem lineP_bs (S : List UInt8) (p : PrM) : bs S ++ (⟨#[112, 114, 111, 99, 32]⟩ : ByteArray) ++ bs p.name ++ (⟨#[32]⟩ : ByteArray) ++ bs (Lib.itoa p.par) ++ (⟨#[32]⟩ : ByteArray) ++ bs (Lib.itoa p.slo) ++ (⟨#[32]⟩ : ByteArray) ++ bs (Lib.itoa p.typ) ++ (⟨#[10]⟩ : ByteArray) = bs (S ++ lineM (partsP p)) := by
  rw [show (⟨#[112, 114, 111, 99, 32]⟩ : ByteArray) = bs (procB ++ [32]) from rfl, show (⟨#[32]⟩ : ByteArray) = bs [32] from rfl, show (⟨#[10]⟩ : ByteArray) = bs [10] from rfl]
  simp only [catC]
  congr 1
  simp [lineM, partsP, Lib.join_cons, Lib.joinTail]
theorem lineI_bs (S : List UInt8) (x : InM) :
    (manyM x.op.toNat = 0 → bs S ++ bs (opW.getD x.op.toNat []) ++ (⟨#[10]⟩ : ByteArray) = bs (S ++ lineM (partsI x))) ∧
    (manyM x.op.toNat = 1 → bs S ++ bs (opW.getD x.op.toNat []) ++ (⟨#[32]⟩ : ByteArray) ++ bs (Lib.itoa x.arg) ++ (⟨#[10]⟩ : ByteArray) = bs (S ++ lineM (partsI x))) ∧
    (manyM x.op.toNat = 2 → bs S ++ bs (opW.getD x.op.toNat []) ++ (⟨#[32]⟩ : ByteArray) ++ bs (Lib.itoa x.arg) ++ (⟨#[32]⟩ : ByteArray) ++ bs (Lib.itoa x.mor) ++ (⟨#[10]⟩ : ByteArray) = bs (S ++ lineM (partsI x))) := by
  rw [show (⟨#[32]⟩ : ByteArray) = bs [32] from rfl, show (⟨#[10]⟩ : ByteArray) = bs [10] from rfl]
  simp only [catC]
  refine ⟨fun h => ?_, fun h => ?_, fun h => ?_⟩ <;> (congr 1; simp [lineM, partsI, h, Lib.join_cons, Lib.joinTail])
set_option maxRecDepth 100000 in
set_option maxHeartbeats 8000000 in
theorem refPrint_calls (c : CoM) (A A2 : Option Addr) (c1 c2 : Nat) (w : World) (hc : CoAt w w.heap.size A c1 A2 c2 c) (hst : StOk c) (hnm : ∀ p ∈ c.ps, p.name.length ≤ 60) (hlen : (txtC c).length ≤ 1000000) :
    Calls Tryz.prog 11 #[coV A c1 A2 c2 c] w fun e w' => e = .returned (.string (bs (txtC c))) ∧ Below w.heap.size w w' := by
  have hcp := hc.capP
  have hci := hc.capI
  have hfw := hc.few
  unfold maxLen at hfw
  have HC := Lib.hid hc
  have HST := Lib.hid hst
  have HNM := Lib.hid hnm
  have HLN := Lib.hid hlen
  unfold coV
  have HB0 := Lib.hid ((Below.refl w.heap.size w).alloc (Nat.le_refl _) (.cells #[.slice A c.ps.length c1, .slice A2 c.is.length c2] 35))
  have HX := Lib.hid (heapOne w #[.slice A c.ps.length c1, .slice A2 c.is.length c2] 35)
  clear hc hst hnm hlen
  go_enter Tryz.func11, Tryz.ntmps11
  go_wp2_with fail
  generalize w.alloc (.cells #[.slice A c.ps.length c1, .slice A2 c.is.length c2] 35) = W0 at *
  have hsz0 : w.heap.size < W0.heap.size := blkLt HX.out
  go_loopw [3, 11] (fun t i wr => ∃ (k : Nat), k ≤ c.ps.length ∧ i = .int .i64 k ∧ t = .string (bs (preT c k)) ∧ Hid (Below W0.heap.size W0 wr)) (fun _ i _ => c.ps.length - (intOf i).toNat)
  case atStart => exact ⟨0, by omega, rfl, rfl, Lib.hid (Below.refl _ _)⟩
  case round =>
    obtain ⟨k, hk, rfl, rfl, HB⟩ := hrel
    have x0 : wr.cell? ⟨w.heap.size, 0, none⟩ = some (.slice A c.ps.length c1) := keepC HB.out (cellC HX.out 0) hsz0
    have x1 : wr.cell? ⟨w.heap.size, 1, none⟩ = some (.slice A2 c.is.length c2) := keepC HB.out (cellC HX.out 1) hsz0
    by_cases hlt : k < c.ps.length
    · obtain ⟨b, off, rfl, hb, hcells⟩ := (HC.out.prs) (by omega)
      obtain ⟨q0, q1, q2, q3, q4, q5⟩ := hcells k hlt
      have kk : ∀ {o : Nat} {u : Value}, w.cell? ⟨b, o, none⟩ = some u → wr.cell? ⟨b, o, none⟩ = some u := fun hq => keepC HB.out (keepC HB0.out hq hb) (by omega)
      have q0 := kk q0
      have q1 := kk q1
      have q2 := kk q2
      have q3 := kk q3
      have q4 := kk q4
      have q5 := kk q5
      have hmem : c.ps[k] ∈ c.ps := List.getElem_mem hlt
      have HM := Lib.hid hmem
      have HTK : Hid (c.ps.take (k + 1) = c.ps.take k ++ [c.ps[k]]) := Lib.hid (List.take_succ_eq_append_getElem hlt)
      have HPS := Lib.hid (preT_step c k hlt)
      have HPL := Lib.hid (preT_le c (k + 1))
      obtain ⟨hr1, hr2, hr3, hr4⟩ := HST.out.1.range hmem
      have HFT := Lib.hid (HC.out.fitP _ hmem)
      have HBD := Lib.hid (show ∀ y ∈ body c c.ps[k], inOk c.ps[k] c.ps.length y ∧ y.fit from fun y hy => ⟨(HST.out.2 _ hmem).2 y hy, HC.out.fitI y (by unfold body at hy; exact List.mem_of_mem_drop (List.mem_of_mem_take hy))⟩)
      generalize hS : preT c k = S at *
      generalize c.ps[k] = p at *
      have HS := Lib.hid hS
      have HRG := Lib.hid (And.intro hr1 (And.intro hr2 (And.intro hr3 hr4)))
      clear hr1 hr2 hr3 hr4
      clear hS kk hcells hmem
      have hk0 : (0 : Int) ≤ (k : Int) := by omega
      have hk1 : (k : Int) < (c.ps.length : Int) := by omega
      go_upto_region 6 with (fail)
      have HB1 := Lib.hid (HB.out.alloc HB.out.size (.cells #[.string (bs p.name), .int .i64 p.frm, .int .i64 p.to, .int .i64 p.par, .int .i64 p.slo, .int .i64 p.typ] 60))
      have HX1 := Lib.hid (heapOne wr #[.string (bs p.name), .int .i64 p.frm, .int .i64 p.to, .int .i64 p.par, .int .i64 p.slo, .int .i64 p.typ] 60)
      have hgz : W0.heap.size ≤ wr.heap.size := HB.out.size
      generalize hG : wr.heap.size = G at *
      have HG := Lib.hid hG
      clear hG q0 q1 q2 q3 q4 q5 x0 x1
      generalize wr.alloc (.cells #[.string (bs p.name), .int .i64 p.frm, .int .i64 p.to, .int .i64 p.par, .int .i64 p.slo, .int .i64 p.typ] 60) = W1 at *
      have y0 : W1.drew.cell? ⟨G, 0, none⟩ = some (.string (bs p.name)) := cellC HX1.out 0
      have y3 : W1.drew.cell? ⟨G, 3, none⟩ = some (.int .i64 p.par) := cellC HX1.out 3
      have y4 : W1.drew.cell? ⟨G, 4, none⟩ = some (.int .i64 p.slo) := cellC HX1.out 4
      have y5 : W1.drew.cell? ⟨G, 5, none⟩ = some (.int .i64 p.typ) := cellC HX1.out 5
      have HK : Hid (Below W1.heap.size W1 W1.drew) := Lib.hid (below_drewC (Below.refl _ _) 1)
      obtain ⟨fp0, fp1, fp2⟩ : i64 p.par ∧ i64 p.slo ∧ i64 p.typ := ⟨HFT.out.2.2.1, HFT.out.2.2.2.1, HFT.out.2.2.2.2⟩
      obtain ⟨d0, hd0⟩ : ∃ d, d = bs (Lib.itoa p.par) := ⟨_, rfl⟩
      obtain ⟨d1, hd1⟩ : ∃ d, d = bs (Lib.itoa p.slo) := ⟨_, rfl⟩
      obtain ⟨d2, hd2⟩ : ∃ d, d = bs (Lib.itoa p.typ) := ⟨_, rfl⟩
      have HLB := Lib.hid (lineP_bs S p)
      rw [← hd0, ← hd1, ← hd2] at HLB
      have z0 : d0.size ≤ 21 := by rw [hd0, bs_size]; exact itoa_len fp0
      have z1 : d1.size ≤ 21 := by rw [hd1, bs_size]; exact itoa_len fp1
      have z2 : d2.size ≤ 21 := by rw [hd2, bs_size]; exact itoa_len fp2
      have zS : (bs S).size ≤ 1000000 := by
        have h1 := HPL.out
        have h2 := HLN.out
        rw [HPS.out, List.length_append] at h1
        rw [bs_size]; omega
      have zn : (bs p.name).size ≤ 60 := by rw [bs_size]; exact HNM.out p HM.out
      generalize bs p.name = nm at *
      generalize hSS : bs S = SS at *
      have HSS := Lib.hid hSS
      clear hSS
      have g1 : (9223372036854775807 < SS.size + 5) = False := eq_false (by omega)
      have g2 : (9223372036854775807 < SS.size + 5 + nm.size) = False := eq_false (by omega)
      have g3 : (9223372036854775807 < SS.size + 5 + nm.size + 1) = False := eq_false (by omega)
      have g4 : (9223372036854775807 < SS.size + 5 + nm.size + 1 + d0.size) = False := eq_false (by omega)
      have g5 : (9223372036854775807 < SS.size + 5 + nm.size + 1 + d0.size + 1) = False := eq_false (by omega)
      have g6 : (9223372036854775807 < SS.size + 5 + nm.size + 1 + d0.size + 1 + d1.size) = False := eq_false (by omega)
      have g7 : (9223372036854775807 < SS.size + 5 + nm.size + 1 + d0.size + 1 + d1.size + 1) = False := eq_false (by omega)
      have g8 : (9223372036854775807 < SS.size + 5 + nm.size + 1 + d0.size + 1 + d1.size + 1 + d2.size) = False := eq_false (by omega)
      have g9 : (9223372036854775807 < SS.size + 5 + nm.size + 1 + d0.size + 1 + d1.size + 1 + d2.size + 1) = False := eq_false (by omega)
      have t0 := fun W => refDec_calls p.par fp0 W
      simp only [← hd0] at t0
      have HD0 := Lib.hid t0
      clear t0
      have t1 := fun W => refDec_calls p.slo fp1 W
      simp only [← hd1] at t1
      have HD1 := Lib.hid t1
      clear t1
      have t2 := fun W => refDec_calls p.typ fp2 W
      simp only [← hd2] at t2
      have HD2 := Lib.hid t2
      clear t2
      have HE0 := Lib.hid hd0
      have HE1 := Lib.hid hd1
      have HE2 := Lib.hid hd2
      clear zS zn z0 z1 z2 hd0 hd1 hd2
      generalize p.par = vpar at *
      generalize p.slo = vslo at *
      generalize p.typ = vtyp at *
      go_region_held3 (fun w' => w'.cell? ⟨G, 0, none⟩ = some (.string nm) ∧ w'.cell? ⟨G, 3, none⟩ = some (.int .i64 vpar) ∧ w'.cell? ⟨G, 4, none⟩ = some (.int .i64 vslo) ∧ w'.cell? ⟨G, 5, none⟩ = some (.int .i64 vtyp))
        (with_reducible exact ⟨y0, y3, y4, y5⟩)
        (first | (go_at_call 26; ((first | (with_reducible refine (HD0.out _).mono ?_) | (with_reducible refine (HD1.out _).mono ?_) | (with_reducible refine (HD2.out _).mono ?_)); rintro e w3 ⟨rfl, hb⟩; have HK := Lib.hid (HK.out.trans (hb.mono HK.out.size)); have k1 := (HK.out.block _ (blkLt HX1.out)).trans HX1.out; have y0 : w3.cell? ⟨G, 0, none⟩ = some (.string nm) := cellC k1 0; have y3 : w3.cell? ⟨G, 3, none⟩ = some (.int .i64 vpar) := cellC k1 3; have y4 : w3.cell? ⟨G, 4, none⟩ = some (.int .i64 vslo) := cellC k1 4; have y5 : w3.cell? ⟨G, 5, none⟩ = some (.int .i64 vtyp) := cellC k1 5; clear k1 hb)))
      have k1 := (HK.out.block _ (blkLt HX1.out)).trans HX1.out
      have HX3 := Lib.hid k1
      have HB3 := Lib.hid (HB1.out.trans (HK.out.mono HB1.out.size))
      rw [HLB.out]
      obtain ⟨r1, r2, r3, r4⟩ := HRG.out
      generalize hF : p.frm.toNat = F at *
      generalize hT : p.to.toNat = T at *
      have u1 : w3.cell? ⟨G, 1, none⟩ = some (.int .i64 (F : Int)) := by rw [← r1]; exact cellC k1 1
      have u2 : w3.cell? ⟨G, 2, none⟩ = some (.int .i64 (T : Int)) := by rw [← r2]; exact cellC k1 2
      have HBG := Lib.hid (body_get r1 r2 r4 (by omega))
      have hGW3 : G < w3.heap.size := blkLt HX3.out
      have hWW3 : W0.heap.size ≤ w3.heap.size := HB3.out.size
      obtain ⟨S2, hS2⟩ : ∃ S2, S2 = S ++ lineM (partsP p) := ⟨_, rfl⟩
      rw [← hS2]
      have HS2 := Lib.hid hS2
      clear hS2 k1 y0 y3 y4 y5 r1 r2 hF hT g1 g2 g3 g4 g5 g6 g7 g8 g9 HD0 HD1 HD2 HLB HE0 HE1 HE2
      go_wp2_with fail
      go_loopw [3, 6] (fun t i wr => ∃ (q : Nat), F ≤ q ∧ q ≤ T ∧ i = .int .i64 q ∧ t = .string (bs (S2 ++ bodyT ((body c p).take (q - F)))) ∧ Hid (Below w3.heap.size w3 wr)) (fun _ i _ => T - (intOf i).toNat)
      case atStart => exact ⟨F, by omega, by omega, rfl, by simp [bodyT], Lib.hid (Below.refl _ _)⟩
      case round =>
        obtain ⟨q, hq1, hq2, rfl, rfl, HBJ⟩ := hrel
        have u2 : wr.cell? ⟨G, 2, none⟩ = some (.int .i64 (T : Int)) := keepC HBJ.out u2 hGW3
        have hWJ : w3.heap.size ≤ wr.heap.size := HBJ.out.size
        by_cases hqt : q < T
        · have hql : q < c.is.length := by omega
          obtain ⟨b3, off3, rfl, hb3, hcells3⟩ := HC.out.ins (by omega)
          have hcl := hcells3 q hql
          have HBW := Lib.hid (HB0.out.trans ((HB3.out.trans (HBJ.out.mono hWW3)).mono HB0.out.size))
          have q0 := keepC HBW.out hcl.1 hb3
          have q1 := keepC HBW.out hcl.2.1 hb3
          have q2 := keepC HBW.out hcl.2.2 hb3
          have x1 : wr.cell? ⟨w.heap.size, 1, none⟩ = some (.slice (some ⟨b3, off3, none⟩) c.is.length c2) := keepC (HB3.out.trans (HBJ.out.mono hWW3)) (cellC HX.out 1) hsz0
          obtain ⟨hbl, hbg⟩ := HBG.out
          have hbj : (body c p)[q - F]'(by omega) = c.is[q] := by
            rw [hbg (q - F) (by omega) (by omega)]
            congr 1
            omega
          have hmem : c.is[q] ∈ body c p := by rw [← hbj]; exact List.getElem_mem _
          obtain ⟨hok, hfx⟩ := HBD.out _ hmem
          have hst := bodyT_step (body c p) (q - F) (by omega)
          have hle := bodyT_le (body c p) (q - F + 1)
          rw [hbj] at hst
          have hqq : q + 1 - F = q - F + 1 := by omega
          have hln : (S2 ++ bodyT ((body c p).take (q - F))).length ≤ 1000000 := by
            have h1 := HPL.out
            have h2 := HLN.out
            rw [HPS.out] at h1
            have h3 := bodyT_le (body c p) (q - F)
            rw [HS2.out]
            simp only [List.length_append] at h1 ⊢
            omega
          have HSTP : Hid (bs (S2 ++ bodyT ((body c p).take (q - F)) ++ lineM (partsI c.is[q])) = bs (S2 ++ bodyT ((body c p).take (q + 1 - F)))) := Lib.hid (by rw [hqq, hst, List.append_assoc])
          have hlI := lineI_bs (S2 ++ bodyT ((body c p).take (q - F))) c.is[q]
          have hopw := (opW_facts hok.1.1 hok.1.2).2.2.2.2
          obtain ⟨ho1, ho2⟩ := hok.1
          generalize c.is[q] = x at *
          obtain ⟨o, ho⟩ := Int.eq_ofNat_of_zero_le (show 0 ≤ x.op by omega)
          have hoN : x.op.toNat = o := by omega
          rw [hoN] at hlI hopw
          rw [ho] at q0 ho1 ho2
          have HHS : Hid (∀ W, Calls Tryz.prog 28 #[.int .i64 (o : Int)] W fun e w' => e = .returned (.int .i64 ((manyM o : Nat) : Int)) ∧ Below W.heap.size W w') := Lib.hid (fun W => refHas_calls (o : Int) ho1 ho2 W)
          have zS : (bs (S2 ++ bodyT ((body c p).take (q - F)))).size ≤ 1000000 := by rw [bs_size]; exact hln
          obtain ⟨wd, hwd⟩ : ∃ d, d = bs (opW.getD o []) := ⟨_, rfl⟩
          obtain ⟨da, hda⟩ : ∃ d, d = bs (Lib.itoa x.arg) := ⟨_, rfl⟩
          obtain ⟨dm, hdm⟩ : ∃ d, d = bs (Lib.itoa x.mor) := ⟨_, rfl⟩
          have zw : wd.size ≤ 7 := by rw [hwd, bs_size]; exact hopw
          have z1 : da.size ≤ 21 := by rw [hda, bs_size]; exact itoa_len hfx.2.1
          have z2 : dm.size ≤ 21 := by rw [hdm, bs_size]; exact itoa_len hfx.2.2
          have ta := fun W => refDec_calls x.arg hfx.2.1 W
          simp only [← hda] at ta
          have HDA := Lib.hid ta
          have tm := fun W => refDec_calls x.mor hfx.2.2 W
          simp only [← hdm] at tm
          have HDM := Lib.hid tm
          rw [← hwd, ← hda, ← hdm] at hlI
          have hmany := many_le o
          have hm3 : manyM o = 0 ∨ manyM o = 1 ∨ manyM o = 2 := by omega
          have HWDE := Lib.hid hwd
          rw [HSTP.out] at hlI
          have HLI := Lib.hid hlI
          generalize hSS : bs (S2 ++ bodyT ((body c p).take (q - F))) = SS at *
          have g1 : (9223372036854775807 < SS.size + wd.size) = False := eq_false (by omega)
          have g2 : (9223372036854775807 < SS.size + wd.size + 1) = False := eq_false (by omega)
          have g3 : (9223372036854775807 < SS.size + wd.size + 1 + da.size) = False := eq_false (by omega)
          have g4 : (9223372036854775807 < SS.size + wd.size + 1 + da.size + 1) = False := eq_false (by omega)
          have g5 : (9223372036854775807 < SS.size + wd.size + 1 + da.size + 1 + dm.size) = False := eq_false (by omega)
          have g6 : (9223372036854775807 < SS.size + wd.size + 1 + da.size + 1 + dm.size + 1) = False := eq_false (by omega)
          have k0 : (0 : Int) ≤ (q : Int) := by omega
          have kq : (q : Int) < (c.is.length : Int) := by omega
          have kt : (q : Int) < (T : Int) := by omega
          have ko0 : (0 : Int) ≤ (o : Int) := by omega
          have ko1 : (o : Int) < 30 := by omega
          have ko2 : o < 30 := by omega
          have HWD := Lib.hid (fun W => refOpWords_calls W)
          generalize x.arg = va at *
          generalize x.mor = vm at *
          clear hcl hcells3 hbl hbg hbj hmem hok hfx hst hle hopw hln hlI ta tm hwd hda hdm hSS zS zw z1 z2 ho1 ho2 ho hoN hmany HSTP
          go_upto_region 11 with (fail)
          have HBI := Lib.hid (HBJ.out.alloc hWJ (.cells #[.int .i64 (o : Int), .int .i64 va, .int .i64 vm] 62))
          have HXI := Lib.hid (heapOne wr #[.int .i64 (o : Int), .int .i64 va, .int .i64 vm] 62)
          generalize hG2 : wr.heap.size = G2 at *
          generalize wr.alloc (.cells #[.int .i64 (o : Int), .int .i64 va, .int .i64 vm] 62) = W5 at *
          have y0 : W5.drew.cell? ⟨G2, 0, none⟩ = some (.int .i64 (o : Int)) := cellC HXI.out 0
          have HK : Hid (Below W5.heap.size W5 W5.drew) := Lib.hid (below_drewC (Below.refl _ _) 1)
          clear q0 q1 q2 x1 u2 hG2
          go_region_with (go_at_call 27; (with_reducible refine (HWD.out _).mono ?_); rintro e w6 ⟨rfl, hwdc, hb, hlt6⟩; have HK := Lib.hid (HK.out.trans (hb.mono HK.out.size)); have k1 := (HK.out.block _ (blkLt HXI.out)).trans HXI.out; have y0 : w6.cell? ⟨G2, 0, none⟩ = some (.int .i64 (o : Int)) := cellC k1 0; have v0 : w6.cell? ⟨W5.heap.size, o, none⟩ = some (.string wd) := (hwdc o ko2).trans (by rw [← HWDE.out]); clear k1 hb hwdc)
          all_goals
            have hB5 : w3.heap.size ≤ W5.heap.size := HBI.out.size
            have HBK := Lib.hid (HBI.out.trans (HK.out.mono hB5))
            have k1 := (HK.out.block _ (blkLt HXI.out)).trans HXI.out
            have HXK := Lib.hid k1
            have y0 : w6.cell? ⟨G2, 0, none⟩ = some (.int .i64 (o : Int)) := cellC k1 0
            have y1 : w6.cell? ⟨G2, 1, none⟩ = some (.int .i64 va) := cellC k1 1
            have y2 : w6.cell? ⟨G2, 2, none⟩ = some (.int .i64 vm) := cellC k1 2
            clear k1 v0 HWD HWDE
            go_wp2_with fail
            refine (HHS.out _).mono ?_
            rintro e w7 ⟨rfl, hb7⟩
            have hs7 : w3.heap.size ≤ w6.heap.size := HBK.out.size
            have HB7 := Lib.hid (HBK.out.trans (hb7.mono hs7))
            have k1 := (hb7.block _ (blkLt HXK.out)).trans HXK.out
            have HX7 := Lib.hid k1
            have y0 : w7.cell? ⟨G2, 0, none⟩ = some (.int .i64 (o : Int)) := cellC k1 0
            have y1 : w7.cell? ⟨G2, 1, none⟩ = some (.int .i64 va) := cellC k1 1
            have y2 : w7.cell? ⟨G2, 2, none⟩ = some (.int .i64 vm) := cellC k1 2
            clear k1 hb7
            have hs8 : w3.heap.size ≤ w7.heap.size := HB7.out.size
            rcases hm3 with hm | hm | hm
            · rw [hm] at HHS ⊢
              have HE := Lib.hid (HLI.out.1 hm)
              go_wp2_with fail
              refine (HHS.out _).mono ?_
              rintro e w8 ⟨rfl, hb8⟩
              have HB8 := Lib.hid (HB7.out.trans (hb8.mono hs8))
              clear hb8 y0 y1 y2
              go_wp2
              go_roundw
              case rel => exact ⟨q + 1, by omega, by omega, by go_num, by rw [← HE.out], HB8⟩
              case measure => simp [intOf]; omega
            · rw [hm] at HHS ⊢
              have HE := Lib.hid (HLI.out.2.1 hm)
              go_wp2_with fail
              refine (HDA.out _).mono ?_
              rintro e w8 ⟨rfl, hb8⟩
              have HB8 := Lib.hid (HB7.out.trans (hb8.mono hs8))
              have k1 := (hb8.block _ (blkLt HX7.out)).trans HX7.out
              have hs9 : w3.heap.size ≤ w8.heap.size := HB8.out.size
              have y0 : w8.cell? ⟨G2, 0, none⟩ = some (.int .i64 (o : Int)) := cellC k1 0
              clear k1 hb8
              go_wp2_with fail
              refine (HHS.out _).mono ?_
              rintro e w9 ⟨rfl, hb9⟩
              have HB9 := Lib.hid (HB8.out.trans (hb9.mono hs9))
              clear hb9 y0 y1 y2
              go_wp2
              go_roundw
              case rel => exact ⟨q + 1, by omega, by omega, by go_num, by rw [← HE.out], HB9⟩
              case measure => simp [intOf]; omega
            · rw [hm] at HHS ⊢
              have HE := Lib.hid (HLI.out.2.2 hm)
              go_wp2_with fail
              refine (HDA.out _).mono ?_
              rintro e w8 ⟨rfl, hb8⟩
              have HB8 := Lib.hid (HB7.out.trans (hb8.mono hs8))
              have k1 := (hb8.block _ (blkLt HX7.out)).trans HX7.out
              have HX8 := Lib.hid k1
              have hs9 : w3.heap.size ≤ w8.heap.size := HB8.out.size
              have y0 : w8.cell? ⟨G2, 0, none⟩ = some (.int .i64 (o : Int)) := cellC k1 0
              clear k1 hb8
              go_wp2_with fail
              refine (HHS.out _).mono ?_
              rintro e w9 ⟨rfl, hb9⟩
              have HB9 := Lib.hid (HB8.out.trans (hb9.mono hs9))
              have k1 := (hb9.block _ (blkLt HX8.out)).trans HX8.out
              have hs10 : w3.heap.size ≤ w9.heap.size := HB9.out.size
              have y2 : w9.cell? ⟨G2, 2, none⟩ = some (.int .i64 vm) := cellC k1 2
              clear k1 hb9 y0
              go_wp2_with fail
              refine (HDM.out _).mono ?_
              rintro e w10 ⟨rfl, hb10⟩
              have HB10 := Lib.hid (HB9.out.trans (hb10.mono hs10))
              clear hb10 y1 y2
              go_wp2
              go_roundw
              case rel => exact ⟨q + 1, by omega, by omega, by go_num, by rw [← HE.out], HB10⟩
              case measure => simp [intOf]; omega
        · obtain rfl : q = T := by omega
          have HPN : Hid (bs (S2 ++ bodyT ((body c p).take (q - F))) = bs (preT c (k + 1))) := Lib.hid (by
            rw [HS2.out, HPS.out, List.take_of_length_le (by have := HBG.out.1; omega), List.append_assoc])
          rw [HPN.out]
          have HBE := Lib.hid (HB3.out.trans (HBJ.out.mono hWW3))
          clear HPN hqt
          go_wp2
          go_roundw
          case rel => exact ⟨k + 1, by omega, by go_num, rfl, HBE⟩
          case measure => simp [intOf]; omega
    · obtain rfl : k = c.ps.length := by omega
      have HBE := Lib.hid (HB0.out.trans (HB.out.mono HB0.out.size))
      rw [preT_all]
      generalize hR : bs (txtC c) = R at *
      have HRH := Lib.hid hR
      clear hR
      clear x0 x1 hlt hk
      go_wp2
      go_ret
      exact ⟨by rw [HRH.out]; rfl, HBE.out⟩
end Go.Proofs.YtoailhkaenofpaaGreatDoor
