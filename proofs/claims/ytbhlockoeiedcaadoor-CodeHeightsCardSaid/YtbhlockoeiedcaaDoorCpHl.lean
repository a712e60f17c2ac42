/-
  The statement about heights, walked.
-/
import Derived.Test.YtbhlockoeiedcaaDoorCpFe
namespace Go.Proofs.YtbhlockoeiedcaaDoor
open Go.RowKit

theorem HtsC.ret {c : CoM} {hs : List Int} (hst : StOk c) (h : HtsC c hs) {i : Nat} (hi : i < c.is.length) (h27 : (c.is[i]).op = 27) (h0 : 0 ≤ hAt hs i) : (c.is[i]).arg ≤ hAt hs i := by
  obtain ⟨p, hp, h3, h4⟩ := ordB_cover c.ps 0 c.is.length (by omega) hst.1.2 i (by omega) hi
  obtain ⟨r1, r2, r3, r4⟩ := hst.1.range hp
  have D := ((h.2 p hp).done i (by omega) (by omega) h0).1
  have e : insAt c i = c.is[i] := by
    unfold insAt
    rw [List.getD_eq_getElem?_getD, List.getElem?_eq_getElem hi]; rfl
  rw [e] at D
  unfold takesM at D
  rw [if_neg (by omega), if_pos h27] at D
  exact D
theorem hsCell {w : World} {g : Nat} {hs : List Int} (h : w.heap[g]? = some (.cells (intsL hs).toArray 3 (0, 0))) (i : Nat) (hi : i < hs.length) : w.cell? ⟨g, i, none⟩ = some (.int .i64 (hAt hs i)) := by
  rw [cellC h i]
  unfold intsL hAt
  rw [List.getD_eq_getElem?_getD, List.getElem?_eq_getElem hi]
  simp [hi]

set_option maxRecDepth 100000 in
set_option maxHeartbeats 4000000 in
theorem codeHeights_law (c : CoM) (A A2 : Option Addr) (c1 c2 : Nat) (w : World) (hc : CoAt w w.heap.size A c1 A2 c2 c) (hnm : ∀ p ∈ c.ps, p.name.length ≤ maxLen) (hX : TX w) :
    Calls Tryd.prog 3 #[coV A c1 A2 c2 c] w fun e w' => e = .returned (.bool true) ∧ Below w.heap.size w w' := by
  have hfew := hc.few
  have hcp := hc.capP
  have hci := hc.capI
  have HFE := Lib.hid (fun W (hb : Below w.heap.size w W) => few_calls c A A2 c1 c2 W ((hc.below hb (Nat.le_refl _)).wide hb.size) hnm)
  have HAW := Lib.hid (fun W (hb : Below w.heap.size w W) => awakeC_calls W (hX.below hb (Nat.le_refl _)))
  have HHG := Lib.hid (fun (hf : fewM c) W (hb : Below w.heap.size w W) => heights_calls c A A2 c1 c2 W ((hc.below hb (Nat.le_refl _)).wide hb.size) (fun p hp => Nat.le_trans (hf.1 p hp) (by omega)) (Nat.le_trans hf.2.2 (by omega)) (hX.below hb (Nat.le_refl _)).ts)
  have HGD := Lib.hid (fun (hf : fewM c) W (hb : Below w.heap.size w W) => good_calls c A A2 c1 c2 W ((hc.below hb (Nat.le_refl _)).wide hb.size) (fun p hp => Nat.le_trans (hf.1 p hp) (by omega)) (Nat.le_trans hf.2.2 (by omega)) (hX.below hb (Nat.le_refl _)).ts)
  have HC := Lib.hid hc
  unfold maxLen at hfew
  unfold coV at HFE HHG HGD ⊢
  have HB0 := Lib.hid ((Below.refl w.heap.size w).alloc (Nat.le_refl _) (.cells #[.slice A c.ps.length c1, .slice A2 c.is.length c2] 25))
  have HX := Lib.hid (heapOne w #[.slice A c.ps.length c1, .slice A2 c.is.length c2] 25)
  clear hc hnm hX
  go_enter Tryd.func3, Tryd.ntmps3
  go_wp2_with fail
  generalize w.alloc (.cells #[.slice A c.ps.length c1, .slice A2 c.is.length c2] 25) = W0 at *
  have hsz0 : w.heap.size < W0.heap.size := blkLt HX.out
  refine (HAW.out _ HB0.out).mono ?_
  rintro e w1 ⟨rfl, hb1⟩
  have HB1 := Lib.hid (HB0.out.trans (hb1.mono (by omega)))
  have HX1 := Lib.hid ((hb1.block w.heap.size hsz0).trans HX.out)
  have x0 : w1.cell? ⟨w.heap.size, 0, none⟩ = some (.slice A c.ps.length c1) := cellC HX1.out 0
  have x1 : w1.cell? ⟨w.heap.size, 1, none⟩ = some (.slice A2 c.is.length c2) := cellC HX1.out 1
  have hsz1 : w.heap.size < w1.heap.size := blkLt HX1.out
  clear hb1
  go_wp2_with fail
  refine (HFE.out _ HB1.out).mono ?_
  rintro e w2 ⟨hb2, h2⟩
  have HB2 := Lib.hid (HB1.out.trans (hb2.mono (by omega)))
  have HX2 := Lib.hid ((hb2.block w.heap.size hsz1).trans HX1.out)
  have x0 : w2.cell? ⟨w.heap.size, 0, none⟩ = some (.slice A c.ps.length c1) := cellC HX2.out 0
  have x1 : w2.cell? ⟨w.heap.size, 1, none⟩ = some (.slice A2 c.is.length c2) := cellC HX2.out 1
  have hsz2 : w.heap.size < w2.heap.size := blkLt HX2.out
  clear hb2
  rcases h2 with ⟨hf, rfl⟩ | ⟨_, rfl⟩
  · have HF := Lib.hid hf
    clear hf
    go_wp2_with fail
    refine (HHG.out HF.out _ HB2.out).mono ?_
    rintro e w3 ⟨hb3, h3⟩
    have HB3 := Lib.hid (HB2.out.trans (hb3.mono (by omega)))
    have HX3 := Lib.hid ((hb3.block w.heap.size hsz2).trans HX2.out)
    have x0 : w3.cell? ⟨w.heap.size, 0, none⟩ = some (.slice A c.ps.length c1) := cellC HX3.out 0
    have x1 : w3.cell? ⟨w.heap.size, 1, none⟩ = some (.slice A2 c.is.length c2) := cellC HX3.out 1
    have hsz3 : w.heap.size < w3.heap.size := blkLt HX3.out
    clear hb3
    rcases h3 with ⟨hst, hs, g, hh, rfl, hg, hgl⟩ | ⟨hbad, rfl⟩
    · have hlen := hh.1
      have HHS := Lib.hid hh
      have HST := Lib.hid hst
      have HG := Lib.hid hg
      have HBND := Lib.hid (HtsC.bound hst hh)
      have HRT := Lib.hid (fun (i : Nat) (hi : i < c.is.length) => HtsC.ret hst hh hi)
      have hgs : g < w3.heap.size := blkLt hg
      clear hst hh hg
      go_wp2_with fail
      go_loopw [35] (fun i wr => ∃ (k : Nat), k ≤ c.ps.length ∧ i = .int .i64 k ∧ Hid (Below w3.heap.size w3 wr)) (fun i _ => c.ps.length - (intOf i).toNat)
      case atStart => exact ⟨0, by omega, rfl, Lib.hid (Below.refl _ _)⟩
      case round =>
        obtain ⟨k, hk, rfl, HB⟩ := hrel
        have x0 : wr.cell? ⟨w.heap.size, 0, none⟩ = some (.slice A c.ps.length c1) := keepC HB.out (cellC HX3.out 0) hsz3
        have x1 : wr.cell? ⟨w.heap.size, 1, none⟩ = some (.slice A2 c.is.length c2) := keepC HB.out (cellC HX3.out 1) hsz3
        by_cases hlt : k < c.ps.length
        · obtain ⟨b, off, rfl, hb, hcells⟩ := (HC.out.prs) (by omega)
          obtain ⟨q0, q1, q2, q3, q4, q5⟩ := hcells k hlt
          have kk : ∀ {o : Nat} {u : Value}, w.cell? ⟨b, o, none⟩ = some u → wr.cell? ⟨b, o, none⟩ = some u := fun hq => keepC HB.out (keepC HB3.out hq hb) (by omega)
          have q0 := kk q0
          have q1 := kk q1
          have q2 := kk q2
          have q3 := kk q3
          have q4 := kk q4
          have q5 := kk q5
          have hmem : c.ps[k] ∈ c.ps := List.getElem_mem hlt
          obtain ⟨r1, r2, r3, r4⟩ := HST.out.1.range hmem
          have hfst := (HHS.out.2 _ hmem).first
          generalize c.ps[k] = p at *
          obtain ⟨F, hF⟩ : ∃ F : Nat, p.frm = (F : Int) := ⟨p.frm.toNat, r1⟩
          have hFn : p.frm.toNat = F := by omega
          rw [hFn] at hfst r3
          have hFl : F < hs.length := by omega
          have hv : w3.cell? ⟨g, F, none⟩ = some (.int .i64 0) := by rw [hsCell HG.out F hFl, hfst]
          have hv := keepC HB.out hv hgs
          rw [hF] at q1
          have hv := fun o => newC hv o
          have hk0 : (0 : Int) ≤ (k : Int) := by omega
          have hk1 : (k : Int) < (c.ps.length : Int) := by omega
          have hF0 : (0 : Int) ≤ (F : Int) := by omega
          have hF1 : (F : Int) < (hs.length : Int) := by omega
          clear kk hcells hmem r1 r2 r3 r4 hfst hF hFn
          go_wp2
          go_roundw
          case rel => exact ⟨k + 1, by omega, by go_num, Lib.hid (HB.out.alloc HB.out.size _)⟩
          case measure => simp [intOf]; omega
        · obtain rfl : k = c.ps.length := by omega
          clear hlt hk
          have HB := HB
          go_wp2_with fail
          go_loopw [49] (fun i wq => ∃ (k : Nat), k ≤ c.is.length ∧ i = .int .i64 k ∧ Hid (Below w3.heap.size w3 wq)) (fun i _ => c.is.length - (intOf i).toNat)
          case atStart => exact ⟨0, by omega, rfl, HB⟩
          case round =>
            obtain ⟨j, hj, rfl, HQ⟩ := hrel
            have x0 : wr.cell? ⟨w.heap.size, 0, none⟩ = some (.slice A c.ps.length c1) := keepC HQ.out (cellC HX3.out 0) hsz3
            have x1 : wr.cell? ⟨w.heap.size, 1, none⟩ = some (.slice A2 c.is.length c2) := keepC HQ.out (cellC HX3.out 1) hsz3
            by_cases hlt : j < c.is.length
            · obtain ⟨b, off, rfl, hb, hcells⟩ := (HC.out.ins) (by omega)
              obtain ⟨q0, q1, q2⟩ := hcells j hlt
              have kk : ∀ {o : Nat} {u : Value}, w.cell? ⟨b, o, none⟩ = some u → wr.cell? ⟨b, o, none⟩ = some u := fun hq => keepC HQ.out (keepC HB3.out hq hb) (by omega)
              have q0 := kk q0
              have q1 := kk q1
              have q2 := kk q2
              have hv := keepC HQ.out (hsCell HG.out j (by omega)) hgs
              obtain ⟨b1, b2⟩ := HBND.out j hlt
              have hrt := HRT.out j hlt
              generalize c.is[j] = x at *
              generalize hAt hs j = v at *
              have hv := fun o => newC hv o
              have hk0 : (0 : Int) ≤ (j : Int) := by omega
              have hk1 : (j : Int) < (c.is.length : Int) := by omega
              have hk2 : (j : Int) < (hs.length : Int) := by omega
              have d1 : decide (v < -1) = false := decide_eq_false (by omega)
              have d2 : decide ((200 : Int) < v) = false := decide_eq_false (by omega)
              have HQ2 := HQ.out.alloc HQ.out.size (.cells #[.int .i64 x.op, .int .i64 x.arg, .int .i64 x.mor] 34)
              clear kk hcells
              by_cases h27 : x.op = 27
              · have d3 : (x.op == 27) = true := beq_iff_eq.2 h27
                by_cases h0 : 0 ≤ v
                · have d4 : decide ((0 : Int) ≤ v) = true := decide_eq_true h0
                  have d5 : decide (v < x.arg) = false := decide_eq_false (by have := hrt h27 h0; omega)
                  clear hrt h27 h0
                  go_wp2
                  go_quiet (fail)
                  go_wp2
                  go_roundw
                  case rel => exact ⟨j + 1, by omega, by go_num, Lib.hid (below_drewC HQ2 _)⟩
                  case measure => simp [intOf]; omega
                · have d4 : decide ((0 : Int) ≤ v) = false := decide_eq_false h0
                  clear hrt h27 h0
                  go_wp2
                  go_quiet (fail)
                  go_wp2
                  go_roundw
                  case rel => exact ⟨j + 1, by omega, by go_num, Lib.hid (below_drewC HQ2 _)⟩
                  case measure => simp [intOf]; omega
              · have d3 : (x.op == 27) = false := beq_eq_false_iff_ne.2 h27
                clear hrt h27
                go_wp2
                go_quiet (fail)
                go_wp2
                go_roundw
                case rel => exact ⟨j + 1, by omega, by go_num, Lib.hid (below_drewC HQ2 _)⟩
                case measure => simp [intOf]; omega
            · obtain rfl : j = c.is.length := by omega
              have f1 : ((hs.length : Int) == (c.is.length : Int)) = true := beq_iff_eq.2 (by omega)
              have f2 : (hs.length == c.is.length) = true := beq_iff_eq.2 (by omega)
              clear hlt hj
              go_wp2
              go_ret
              exact ⟨rfl, HB3.out.trans (HQ.out.mono (by omega))⟩
    · have HN := Lib.hid hbad
      clear hbad
      go_wp2_with fail
      refine (HGD.out HF.out _ HB3.out).mono ?_
      rintro e w4 ⟨hb4, h4⟩
      obtain ⟨_, rfl⟩ : ¬ GoodC c ∧ e = .returned (.bool false) := h4.resolve_left (fun h => HN.out h.1)
      have HB4 := Lib.hid (HB3.out.trans (hb4.mono (by omega)))
      clear hb4 h4
      go_wp2
      go_ret
      exact ⟨rfl, HB4.out⟩
  · go_wp2_with fail
    refine (HAW.out _ HB2.out).mono ?_
    rintro e w3 ⟨rfl, hb3⟩
    have HB3 := Lib.hid (HB2.out.trans (hb3.mono (by omega)))
    clear hb3
    go_wp2
    go_ret
    exact ⟨rfl, HB3.out⟩
end Go.Proofs.YtbhlockoeiedcaaDoor
