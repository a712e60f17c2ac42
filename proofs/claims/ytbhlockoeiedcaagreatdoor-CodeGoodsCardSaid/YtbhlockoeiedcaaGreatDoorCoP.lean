/-
  code.Heights, code.Good.
-/
import Derived.Test.YtbhlockoeiedcaaGreatDoorCoO
import Derived.Test.YtbhlockoeiedcaaGreatDoorCoL
namespace Go.Proofs.YtbhlockoeiedcaaGreatDoor
open Go.RowKit

/-- What Heights answers. -/
def HgtP (c : CoM) (w : World) (e : Ending) (w' : World) : Prop :=
  Below w.heap.size w w' ∧ ((StOk c ∧ ∃ hs g, HtsC c hs ∧ e = .returned (.tuple #[.slice (some ⟨g, 0, none⟩) hs.length hs.length, .bool true]) ∧ w'.heap[g]? = some (.cells (intsL hs).toArray 3 (0, 0)) ∧ w.heap.size ≤ g) ∨
   (¬ GoodC c ∧ e = .returned (.tuple #[.slice none 0 0, .bool false])))
theorem ret_hs {g n m : Nat} (h : n = m) : Ending.returned (.tuple #[.slice (some ⟨g, 0, none⟩) n n, .bool true]) = .returned (.tuple #[.slice (some ⟨g, 0, none⟩) m m, .bool true]) := by rw [h]
theorem FK.below {gH f B : Nat} {w w' : World} (h : FK gH f w w') (h1 : B ≤ f) (h2 : B ≤ gH) : Below B w w' := ⟨h.os, h.tape, h.output, h.size, fun k hk => h.block k (by omega) (by omega)⟩
theorem FK.less {gH f f' : Nat} {w w' : World} (h : FK gH f w w') (h1 : f' ≤ f) : FK gH f' w w' := ⟨h.os, h.tape, h.output, h.size, fun k hk h2 => h.block k (by omega) h2⟩

set_option maxRecDepth 100000 in
set_option maxHeartbeats 4000000 in
theorem heights_calls (c : CoM) (A A2 : Option Addr) (c1 c2 : Nat) (w : World) (hc : CoAt w w.heap.size A c1 A2 c2 c) (hnm : ∀ p ∈ c.ps, p.name.length ≤ 100000) (hfew : c.is.length ≤ 100000) (hT : TS w) :
    Calls Tryz.prog 10 #[coV A c1 A2 c2 c] w (HgtP c w) := by
  have HB0 := Lib.hid ((Below.refl w.heap.size w).alloc (Nat.le_refl _) (.cells #[.slice A c.ps.length c1, .slice A2 c.is.length c2] 25))
  have HX := Lib.hid (heapOne w #[.slice A c.ps.length c1, .slice A2 c.is.length c2] 25)
  have HIO := Lib.hid (fun W (hb : Below w.heap.size w W) => inOrder_calls c A A2 c1 c2 W ((hc.below hb (Nat.le_refl _)).wide hb.size))
  have HIP := Lib.hid (fun (ho : ordC c) W (hb : Below w.heap.size w W) => inParts_calls c A A2 c1 c2 W ((hc.below hb (Nat.le_refl _)).wide hb.size) ho hnm (hT.below hb (Nat.le_refl _)))
  have hcl := hc.few
  have hcp := hc.capP
  unfold maxLen at hcl
  unfold coV at HIO HIP ⊢
  cases hob : ordCB c with
  | false =>
    have hbad : ¬ GoodC c := fun h => by
      have := (ordCB_iff c).2 h.1.1
      rw [hob] at this; cases this
    rw [hob] at HIO
    clear hob HIP
    go_enter Tryz.func10, Tryz.ntmps10
    go_wp2_with (go_at_call 23; refine (HIO.out _ HB0.out).mono ?_; rintro e w1 ⟨rfl, hB1⟩; have HB1 := Lib.hid (HB0.out.trans (hB1.mono HB0.out.size)); clear hB1)
    go_ret2
    exact ⟨HB1.out, .inr ⟨hbad, rfl⟩⟩
  | true =>
    have ho := (ordCB_iff c).1 hob
    have HIP := Lib.hid (HIP.out ho)
    rw [hob] at HIO
    cases hpb : partsB c with
    | false =>
      have hbad : ¬ GoodC c := fun h => by
        have := (partsB_iff c hc.fitI).2 h.1.2
        rw [hpb] at this; cases this
      rw [hpb] at HIP
      clear hob hpb ho
      go_enter Tryz.func10, Tryz.ntmps10
      go_wp2_with (first
        | (go_at_call 23; refine (HIO.out _ HB0.out).mono ?_; rintro e w1 ⟨rfl, hB1⟩; have HB1 := Lib.hid (HB0.out.trans (hB1.mono HB0.out.size)); have hx := Lib.hid ((hB1.block w.heap.size (blkLt HX.out)).trans HX.out); have x0 := cellC hx.out 0; have x1 := cellC hx.out 1; clear hB1)
        | (go_at_call 24; refine (HIP.out _ HB1.out).mono ?_; rintro e w2 ⟨rfl, hB2⟩; have HB2 := Lib.hid (HB1.out.trans (hB2.mono HB1.out.size)); clear hB2))
      go_ret2
      exact ⟨HB2.out, .inr ⟨hbad, rfl⟩⟩
    | true =>
      have hpa := (partsB_iff c hc.fitI).1 hpb
      have HST : Hid (StOk c) := Lib.hid ⟨ho, hpa⟩
      rw [hpb] at HIP
      have hnn : 1 ≤ c.ps.length := List.length_pos_iff.2 ho.1
      have hin : 1 ≤ c.is.length := by
        have := ho.range (List.getElem_mem (by omega : 0 < c.ps.length))
        omega
      have HC := Lib.hid hc
      have HTS := Lib.hid hT
      have HREP := Lib.hid (fun W g hg => repeat_calls c.is.length g W hin hfew hg)
      clear hob hpb hpa
      go_enter Tryz.func10, Tryz.ntmps10
      go_wp2_with (first
        | (go_at_call 23; refine (HIO.out _ HB0.out).mono ?_; rintro e w1 ⟨rfl, hB1⟩; have HB1 := Lib.hid (HB0.out.trans (hB1.mono HB0.out.size)); have HX1 := Lib.hid ((hB1.block w.heap.size (blkLt HX.out)).trans HX.out); have x0 := cellC HX1.out 0; have x1 := cellC HX1.out 1; clear hB1)
        | (go_at_call 24; refine (HIP.out _ HB1.out).mono ?_; rintro e w2 ⟨rfl, hB2⟩; have HB2 := Lib.hid (HB1.out.trans (hB2.mono HB1.out.size)); have HX2 := Lib.hid ((hB2.block w.heap.size (blkLt HX1.out)).trans HX1.out); have x0 := cellC HX2.out 0; have x1 := cellC HX2.out 1; have x2 := fun o => newC (cellC HX2.out 0) o; have x3 := fun o => newC (cellC HX2.out 1) o; clear hB2)
        | (go_at_call 25; refine (HREP.out _ w2.heap.size (cellC (heapOne w2 #[.int .i64 (-1)] 3) 0)).mono ?_; rintro e w3 ⟨gH, rfl, hg3, hh3, hB3⟩; have HH3 := Lib.hid hh3; have HG3 : Hid (w2.heap.size ≤ gH) := Lib.hid (Nat.le_trans (by simp) hg3); have HB23 := Lib.hid (((Below.refl w2.heap.size w2).alloc (Nat.le_refl _) _).trans (hB3.mono (by simp))); have HX3 := Lib.hid ((HB23.out.block w.heap.size (blkLt HX2.out)).trans HX2.out); have x0 := cellC HX3.out 0; have x1 := cellC HX3.out 1; clear hB3 hg3 hh3 x2 x3))
      have HB3 := Lib.hid (HB2.out.trans (HB23.out.mono HB2.out.size))
      have hz2 := HB2.out.size
      have hz23 := HB23.out.size
      have hgl := blkLt HH3.out
      have hgg := HG3.out
      have hxb := blkLt HX3.out
      have hqw : w.heap.size < w2.heap.size := blkLt HX2.out
      have hGl : 0 < w.heap.size := HTS.out.shp.2
      clear HIO HIP HREP HB1 HX1 x0 x1
      go_loopw [24] (fun i wr => ∃ (k : Nat) (hs : List Int), k ≤ c.ps.length ∧ i = .int .i64 k ∧ Hid (wr.heap[gH]? = some (.cells (intsL hs).toArray 3 (0, 0))) ∧ Hid (Upto c hs k) ∧ Hid (FK gH w3.heap.size w3 wr)) (fun i _ => c.ps.length - (intOf i).toNat)
      case atStart => exact ⟨0, _, by omega, rfl, HH3, Lib.hid (Upto.zero c), Lib.hid (FK.refl _ _ _)⟩
      case round =>
        obtain ⟨k, hs, hk, rfl, HH, HU, HK⟩ := hrel
        obtain ⟨wo, rfl⟩ : ∃ x, x = wr := ⟨_, rfl⟩
        have HXo := Lib.hid ((HK.out.block w.heap.size hxb (by omega)).trans HX3.out)
        have y0 := cellC HXo.out 0
        have y1 := cellC HXo.out 1
        have HBo := Lib.hid (HB3.out.trans (HK.out.below (B := w.heap.size) (by omega) (by omega)))
        have hzo := HK.out.size
        have hlen := HU.out.len
        by_cases hlt : k < c.ps.length
        · obtain ⟨r1, r2, r3, r4⟩ := HST.out.1.range (List.getElem_mem hlt)
          have hpok := (HST.out.2 _ (List.getElem_mem hlt)).2
          have HSTEP := Lib.hid (fun hs' h1 h2 h3 => HU.out.step (hs' := hs') HST.out hlt h1 h2 h3)
          have HBAD := Lib.hid (fun hw => wrong_bad HST.out hlt hw)
          have hnone := HU.out.no k hlt (Nat.le_refl _)
          obtain ⟨b, off, rfl, hb, hcells⟩ := HC.out.prs (by omega)
          obtain ⟨q0, q1, q2, q3, q4, q5⟩ := hcells k hlt
          have q0 := keepC HBo.out q0 hb
          have q1 := keepC HBo.out q1 hb
          have q2 := keepC HBo.out q2 hb
          have q3 := keepC HBo.out q3 hb
          have q4 := keepC HBo.out q4 hb
          have q5 := keepC HBo.out q5 hb
          generalize c.ps[k] = p at *
          have HPB := Lib.hid (two_fst wo #[.string (bs p.name), .int .i64 p.frm, .int .i64 p.to, .int .i64 p.par, .int .i64 p.slo, .int .i64 p.typ] #[.slice (some ⟨b, off, none⟩) c.ps.length c1, .slice A2 c.is.length c2, .string (bs p.name), .int .i64 p.frm, .int .i64 p.to, .int .i64 p.par, .int .i64 p.slo, .int .i64 p.typ, .slice (some ⟨gH, 0, none⟩) c.is.length c.is.length, .slice none 0 0] 64 68)
          have HB5 : Hid (Below wo.heap.size wo ((wo.alloc (.cells #[.string (bs p.name), .int .i64 p.frm, .int .i64 p.to, .int .i64 p.par, .int .i64 p.slo, .int .i64 p.typ] 64)).alloc (.cells #[.slice (some ⟨b, off, none⟩) c.ps.length c1, .slice A2 c.is.length c2, .string (bs p.name), .int .i64 p.frm, .int .i64 p.to, .int .i64 p.par, .int .i64 p.slo, .int .i64 p.typ, .slice (some ⟨gH, 0, none⟩) c.is.length c.is.length, .slice none 0 0] 68))) := Lib.hid (((Below.refl wo.heap.size wo).alloc (Nat.le_refl _) _).alloc (by simp) _)
          have hfb := heapOne (wo.alloc (.cells #[.string (bs p.name), .int .i64 p.frm, .int .i64 p.to, .int .i64 p.par, .int .i64 p.slo, .int .i64 p.typ] 64)) #[.slice (some ⟨b, off, none⟩) c.ps.length c1, .slice A2 c.is.length c2, .string (bs p.name), .int .i64 p.frm, .int .i64 p.to, .int .i64 p.par, .int .i64 p.slo, .int .i64 p.typ, .slice (some ⟨gH, 0, none⟩) c.is.length c.is.length, .slice none 0 0] 68
          rw [World.size_alloc] at hfb
          have hgo : gH < wo.heap.size := blkLt HH.out
          have HFD : Hid (Fd c (some ⟨b, off, none⟩) c1 A2 c2 p w.heap.size gH (wo.heap.size + 1) hs (.slice none 0 0) [] ((wo.alloc (.cells #[.string (bs p.name), .int .i64 p.frm, .int .i64 p.to, .int .i64 p.par, .int .i64 p.slo, .int .i64 p.typ] 64)).alloc (.cells #[.slice (some ⟨b, off, none⟩) c.ps.length c1, .slice A2 c.is.length c2, .string (bs p.name), .int .i64 p.frm, .int .i64 p.to, .int .i64 p.par, .int .i64 p.slo, .int .i64 p.typ, .slice (some ⟨gH, 0, none⟩) c.is.length c.is.length, .slice none 0 0] 68))) := Lib.hid
            ⟨by rw [hfb, hlen], (HB5.out.block gH hgo).trans HH.out, World.ownsRow_nil _ _ _ _, (HC.out.below HBo.out (Nat.le_refl _)).below HB5.out (by omega), (HTS.out.below HBo.out (Nat.le_refl _)).shp.below HB5.out, ⟨hGl, by omega, by omega⟩, hlen, hfew⟩
          have HFIND := Lib.hid (find_calls hs HFD.out p.frm.toNat p.to.toNat r1 r2 r3 r4 (fun y hy => (HST.out.2 y hy).1) hpok hnone)
          have hk0 : (0 : Int) ≤ (k : Int) := by omega
          have hk1 : (k : Int) < (c.ps.length : Int) := by omega
          clear hfb hpok hnone hcells HFD r1 r2 r3 r4 HPB
          have y0 := fun o => newC y0 o
          have y1 := fun o => newC y1 o
          have HLN := Lib.hid hlen
          clear hlen
          go_wp2_with fail
          refine HFIND.out.mono ?_
          rintro e w6 ⟨b6, rfl, hK6, hyes, hno⟩
          have HK6 := Lib.hid hK6
          have HW6 := Lib.hid (HK.out.trans ((FK.of HB5.out (by omega) : FK gH w3.heap.size wo _).trans (hK6.less (by omega))))
          clear HFIND hK6
          cases b6 with
          | false =>
            have HN := Lib.hid (HBAD.out (hno rfl))
            clear hyes hno
            go_wp2
            go_ret2
            exact ⟨HB3.out.trans (HW6.out.below (B := w.heap.size) (by omega) (by omega)), .inr ⟨HN.out, rfl⟩⟩
          | true =>
            obtain ⟨hs', hh', hl', hp', ho'⟩ := hyes rfl
            have HS' := Lib.hid (HSTEP.out hs' hl' ho' hp')
            have HH' := Lib.hid hh'
            clear hyes hno hh' hl' hp' ho'
            go_wp2
            go_roundw
            case rel => exact ⟨k + 1, hs', by omega, by go_num, HH', HS', HW6⟩
            case measure => simp [intOf]; omega
        · obtain rfl : k = c.ps.length := by omega
          have HLN := Lib.hid hlen
          clear hlen hlt hk
          go_wp2
          go_ret2
          exact ⟨HBo.out, .inl ⟨HST.out, hs, gH, HU.out.all, ret_hs HLN.out.symm, HH.out, by omega⟩⟩

/-- What Good answers. -/
def GoodP (c : CoM) (w : World) (e : Ending) (w' : World) : Prop :=
  Below w.heap.size w w' ∧ ((GoodC c ∧ e = .returned (.bool true)) ∨ (¬ GoodC c ∧ e = .returned (.bool false)))
set_option maxRecDepth 100000 in
set_option maxHeartbeats 2000000 in
theorem good_calls (c : CoM) (A A2 : Option Addr) (c1 c2 : Nat) (w : World) (hc : CoAt w w.heap.size A c1 A2 c2 c) (hnm : ∀ p ∈ c.ps, p.name.length ≤ 100000) (hfew : c.is.length ≤ 100000) (hT : TS w) :
    Calls Tryz.prog 13 #[coV A c1 A2 c2 c] w (GoodP c w) := by
  have HB0 := Lib.hid ((Below.refl w.heap.size w).alloc (Nat.le_refl _) (.cells #[.slice A c.ps.length c1, .slice A2 c.is.length c2] 25))
  have HH := Lib.hid (fun W (hb : Below w.heap.size w W) => heights_calls c A A2 c1 c2 W ((hc.below hb (Nat.le_refl _)).wide hb.size) hnm hfew (hT.below hb (Nat.le_refl _)))
  unfold coV at HH ⊢
  clear hc hT
  go_enter Tryz.func13, Tryz.ntmps13
  go_wp2_with fail
  refine (HH.out _ HB0.out).mono ?_
  rintro e w1 ⟨hB1, h⟩
  have HB1 := Lib.hid (HB0.out.trans (hB1.mono HB0.out.size))
  clear hB1
  rcases h with ⟨hst, hs, g, hh, rfl, hg, _⟩ | ⟨hbad, rfl⟩
  · have HG := Lib.hid (show GoodC c from ⟨hst, hs, hh⟩)
    clear hst hh hg
    go_wp2
    go_ret
    exact ⟨HB1.out, .inl ⟨HG.out, rfl⟩⟩
  · have HG := Lib.hid hbad
    clear hbad
    go_wp2
    go_ret
    exact ⟨HB1.out, .inr ⟨HG.out, rfl⟩⟩

end Go.Proofs.YtbhlockoeiedcaaGreatDoor
