/-
  code.inParts: are procedures and instructions right, as far as that doesn't hang on heights.
-/
import Derived.Test.YtbhlockoeiedcaaGreatDoorCoE
namespace Go.Proofs.YtbhlockoeiedcaaGreatDoor
open Go.RowKit

/-- The tables lie as the text lays them. -/
structure TS (w : World) : Prop where
  tabs : Tabs w
  shp : Shp w
theorem TS.below {w w' : World} {B : Nat} (h : TS w) (hb : Below B w w') (hB : w.heap.size ≤ B) : TS w' := ⟨h.tabs.below hb (Nat.le_trans h.tabs.2.2 hB), h.shp.keep (fun b o hlt => hb.cell (p := ⟨b, o, none⟩) (Nat.lt_of_lt_of_le hlt hB)) hb.size⟩
theorem TS.grow {w w' : World} {B : Nat} (h : TS w) (h0 : w.heap.size ≤ B) {W : World} (hb : Below B w W) (hb2 : Below B W w') : TS w' := h.below (hb.trans hb2) h0

theorem insFits_calls (x : InM) (p : PrM) (np : Nat) (w : World) (hp : p.mild) (hn : np ≤ maxLen) (hS : Shp w) :
    Calls Tryz.prog 49 #[inV x, prV p, .int .i64 (np : Int)] w fun e w' => e = .returned (.bool (inB p np x)) ∧ Below w.heap.size w w' := by
  by_cases h : 1 ≤ x.op ∧ x.op ≤ 29
  · exact insFits_in x p np w x.op.toNat (by omega) (by omega) (by omega) hp hn hS
  · exact insFits_out x p np w h

def partB (c : CoM) (p : PrM) : Bool := prB p && (body c p).all (inB p c.ps.length)
def partsB (c : CoM) : Bool := c.ps.all (partB c)
theorem partsB_iff (c : CoM) (hf : ∀ x ∈ c.is, x.fit) : partsB c = true ↔ parts c := by
  unfold partsB parts partB
  simp only [List.all_eq_true, Bool.and_eq_true]
  constructor
  · intro h p hp
    obtain ⟨h1, h2⟩ := h p hp
    exact ⟨(prB_iff p).1 h1, fun x hx => (inB_iff p _ x (hf x (List.mem_of_mem_drop (List.mem_of_mem_take hx)))).1 (h2 x hx)⟩
  · intro h p hp
    obtain ⟨h1, h2⟩ := h p hp
    exact ⟨(prB_iff p).2 h1, fun x hx => (inB_iff p _ x (hf x (List.mem_of_mem_drop (List.mem_of_mem_take hx)))).2 (h2 x hx)⟩
theorem all_no {α : Type} (l : List α) (f : α → Bool) (k : Nat) (h : k < l.length) (hf : f l[k] = false) : l.all f = false := by
  rw [Bool.eq_false_iff]
  intro e
  have := (List.all_eq_true.1 e) l[k] (List.getElem_mem h)
  rw [hf] at this; cases this
theorem all_step {α : Type} (l : List α) (f : α → Bool) (k : Nat) (h : k < l.length) (h1 : (l.take k).all f = true) (hf : f l[k] = true) : (l.take (k + 1)).all f = true := by
  rw [List.take_succ_eq_append_getElem h, List.all_append, h1, List.all_cons, hf]; rfl
theorem body_get {c : CoM} {p : PrM} {F T : Nat} (hF : p.frm = (F : Int)) (hT : p.to = (T : Int)) (hl : T ≤ c.is.length) (hFT : F ≤ T) : (body c p).length = T - F ∧ ∀ j (hj : j < (body c p).length) (hj2 : F + j < c.is.length), (body c p)[j] = c.is[F + j] := by
  have e1 : (F : Int).toNat = F := by omega
  have e2 : ((T : Int) - (F : Int)).toNat = T - F := by omega
  unfold body
  rw [hF, hT, e1, e2]
  refine ⟨by rw [List.length_take, List.length_drop]; omega, fun j hj hj2 => ?_⟩
  rw [List.getElem_take, List.getElem_drop]

set_option maxRecDepth 100000 in
set_option maxHeartbeats 4000000 in
theorem inParts_calls (c : CoM) (A A2 : Option Addr) (c1 c2 : Nat) (w : World) (hc : CoAt w w.heap.size A c1 A2 c2 c) (ho : ordC c) (hnm : ∀ p ∈ c.ps, p.name.length ≤ 100000) (hT : TS w) :
    Calls Tryz.prog 24 #[coV A c1 A2 c2 c] w fun e w' => e = .returned (.bool (partsB c)) ∧ Below w.heap.size w w' := by
  have hfew := hc.few
  have hcp := hc.capP
  have hci := hc.capI
  have hnpm : c.ps.length ≤ maxLen := by omega
  unfold maxLen at hfew
  have HC := Lib.hid hc
  have HPR := Lib.hid (fun k (hk : k < c.ps.length) => ho.range (List.getElem_mem hk))
  have HPT := Lib.hid (fun k (hk : k < c.ps.length) W (hW : Tabs W) => prFits_calls c.ps[k] (hnm _ (List.getElem_mem hk)) W hW)
  have HTS := Lib.hid hT
  have HFP := Lib.hid (fun k (hk : k < c.ps.length) => hc.fitP _ (List.getElem_mem hk))
  have HR0 := Lib.hid (show partsB c = c.ps.all (partB c) from rfl)
  unfold coV
  generalize partsB c = r at HR0 ⊢
  have HB0 := Lib.hid ((Below.refl w.heap.size w).alloc (Nat.le_refl _) (.cells #[.slice A c.ps.length c1, .slice A2 c.is.length c2] 25))
  have HX := Lib.hid (heapOne w #[.slice A c.ps.length c1, .slice A2 c.is.length c2] 25)
  clear hc ho hnm hT
  go_enter Tryz.func24, Tryz.ntmps24
  go_wp2
  generalize w.alloc (.cells #[.slice A c.ps.length c1, .slice A2 c.is.length c2] 25) = W0 at *
  have hsz0 : w.heap.size < W0.heap.size := (Array.getElem?_eq_some_iff.1 HX.out).1
  go_loopw [10] (fun i wr => ∃ (k : Nat), k ≤ c.ps.length ∧ i = .int .i64 k ∧ Hid ((c.ps.take k).all (partB c) = true) ∧ Hid (Below W0.heap.size W0 wr)) (fun i _ => c.ps.length - (intOf i).toNat)
  case atStart => exact ⟨0, by omega, rfl, Lib.hid rfl, Lib.hid (Below.refl _ _)⟩
  case round =>
    obtain ⟨k, hk, rfl, HR, HB⟩ := hrel
    obtain ⟨wo, rfl⟩ : ∃ x, x = wr := ⟨_, rfl⟩
    have x0 : wo.cell? ⟨w.heap.size, 0, none⟩ = some (.slice A c.ps.length c1) := keepC HB.out (cellC HX.out 0) hsz0
    have x1 : wo.cell? ⟨w.heap.size, 1, none⟩ = some (.slice A2 c.is.length c2) := keepC HB.out (cellC HX.out 1) hsz0
    by_cases hlt : k < c.ps.length
    · obtain ⟨b, off, rfl, hb, hcells⟩ := (HC.out.prs) (by omega)
      obtain ⟨q0, q1, q2, q3, q4, q5⟩ := hcells k hlt
      have kk : ∀ {o : Nat} {u : Value}, w.cell? ⟨b, o, none⟩ = some u → wo.cell? ⟨b, o, none⟩ = some u := fun hq => keepC HB.out (keepC HB0.out hq hb) (by omega)
      have q0 := kk q0
      have q1 := kk q1
      have q2 := kk q2
      have q3 := kk q3
      have q4 := kk q4
      have q5 := kk q5
      obtain ⟨r1, r2, r3, r4⟩ := HPR.out k hlt
      have HPT := Lib.hid (HPT.out k hlt)
      have HNO := Lib.hid (fun (h : partB c c.ps[k] = false) => all_no c.ps (partB c) k hlt h)
      have HYES := Lib.hid (fun (h : partB c c.ps[k] = true) => all_step c.ps (partB c) k hlt HR.out h)
      have HFP := Lib.hid (HFP.out k hlt)
      have HPB := Lib.hid (show partB c c.ps[k] = (prB c.ps[k] && (body c c.ps[k]).all (inB c.ps[k] c.ps.length)) from rfl)
      generalize c.ps[k] = p at *
      generalize hF : p.frm.toNat = F at *
      generalize hT : p.to.toNat = T at *
      have HBG := Lib.hid (body_get r1 r2 r4 (by omega))
      have HIN := Lib.hid (fun x W (hmild : p.mild) (hW : Shp W) => insFits_calls x p c.ps.length W hmild hnpm hW)
      have HMILD : prB p = true → Hid p.mild := fun h => Lib.hid (by
        have := (prB_iff p).1 h
        obtain ⟨m1, m2, _⟩ := this
        exact ⟨by omega, by omega, HFP.out⟩)
      unfold prV at HPT HIN
      rw [r1] at q1
      rw [r2] at q2
      rw [r1, r2] at HPT HIN
      have hk0 : (0 : Int) ≤ (k : Int) := by omega
      have hk1 : (k : Int) < (c.ps.length : Int) := by omega
      have hts : TS wo := HTS.out.below (HB0.out.trans (HB.out.mono (by omega))) (by omega)
      have HTW : Hid (∀ o, Tabs (wo.alloc o)) := Lib.hid fun o => (hts.below ((Below.refl wo.heap.size wo).alloc (Nat.le_refl _) o) (Nat.le_refl _)).tabs
      have HSW : Hid (∀ W, Below wo.heap.size wo W → TS W) := Lib.hid fun W hW => hts.below hW (Nat.le_refl _)
      have hszr := HB.out.size
      clear hts
      cases hpb : prB p
      · rw [hpb] at HPT HPB
        clear kk hcells hpb HMILD r1 r2 hF hT HFP
        go_wp2_with (go_at_call 48; refine (HPT.out _ (HTW.out _)).mono ?_; rintro e w1 ⟨rfl, hB1⟩; have HB1 := Lib.hid hB1; clear hB1)
        go_ret
        exact ⟨ret_bool (by rw [HR0.out, HNO.out (by rw [HPB.out]; rfl)]), (HB0.out.trans (HB.out.mono (by omega))).trans (((Below.refl wo.heap.size wo).alloc (Nat.le_refl _) _).trans (HB1.out.mono (by simp)) |>.mono (by omega))⟩
      · have HM := HMILD hpb
        rw [hpb] at HPT HPB
        clear kk hpb HMILD r1 r2 hF hT HFP hcells
        have hFl : (0 : Int) ≤ (F : Int) := by omega
        have hFT : (F : Int) ≤ (T : Int) := by omega
        have hTc : (T : Int) ≤ (c2 : Int) := by omega
        have hFc : (F : Int) < (c2 : Int) := by omega
        obtain ⟨b2, off2, rfl, hb2, hcells2⟩ := (HC.out.ins) (by omega)
        have HC2 := Lib.hid hcells2
        clear hcells2
        have PB0 := Lib.hid (heapOne wo #[.string (bs p.name), .int .i64 (F : Int), .int .i64 (T : Int), .int .i64 p.par, .int .i64 p.slo, .int .i64 p.typ] 64)
        go_wp2_with (go_at_call 48; refine (HPT.out _ (HTW.out _)).mono ?_; rintro e w1 ⟨rfl, hB1⟩; have HB1 := Lib.hid hB1; have PB := Lib.hid ((hB1.block wo.heap.size (by simp)).trans PB0.out); have x0 := keepC hB1 (newC x0 _) (by simp; omega); have x1 := keepC hB1 (newC x1 _) (by simp; omega); have p0 := cellC PB.out 0; have p1 := cellC PB.out 1; have p2 := cellC PB.out 2; have p3 := cellC PB.out 3; have p4 := cellC PB.out 4; have p5 := cellC PB.out 5; clear hB1 PB0 q0 q1 q2 q3 q4 q5)
        clear p0 p1 p2 p3 p4 p5
        have hz1 : wo.heap.size < w1.heap.size := by have := HB1.out.size; simp at this; omega
        have HBW := Lib.hid ((HB0.out.trans (HB.out.mono (by omega))).trans ((((Below.refl wo.heap.size wo).alloc (Nat.le_refl _) _).trans (HB1.out.mono (by simp))).mono (by omega)))
        have HB01 := Lib.hid (HB.out.trans ((((Below.refl wo.heap.size wo).alloc (Nat.le_refl _) _).trans (HB1.out.mono (by simp))).mono (by omega)))
        have HSX := Lib.hid (HSW.out w1 (((Below.refl wo.heap.size wo).alloc (Nat.le_refl _) _).trans (HB1.out.mono (by simp))))
        clear HB1 HTW HPT HB
        go_loopw [25] (fun i wx => ∃ (j : Nat), j ≤ T - F ∧ i = .int .i64 j ∧ Hid (((body c p).take j).all (inB p c.ps.length) = true) ∧ Hid (Below w1.heap.size w1 wx)) (fun i _ => (T - F) - (intOf i).toNat)
        case atStart => exact ⟨0, by omega, rfl, Lib.hid rfl, Lib.hid (Below.refl _ _)⟩
        case round =>
          obtain ⟨j, hj, rfl, HJ, HBX⟩ := hrel
          by_cases hjt : j < T - F
          · have hFj : F + j < c.is.length := by omega
            obtain ⟨hbl, hbg⟩ := HBG.out
            have hbj := hbg j (by omega) hFj
            have HJY := Lib.hid (all_step (body c p) (inB p c.ps.length) j (by omega) HJ.out)
            have HJN := Lib.hid (all_no (body c p) (inB p c.ps.length) j (by omega))
            rw [hbj] at HJY HJN
            have hcl := HC2.out (F + j) hFj
            have ea : off2 + (F + j) * 3 = off2 + F * 3 + j * 3 := by omega
            rw [ea] at hcl
            have HBX0 := Lib.hid (HBW.out.trans (HBX.out.mono (by have := HBW.out.size; omega)))
            have y0 := keepC HBX0.out hcl.1 hb2
            have y1 := keepC HBX0.out hcl.2.1 hb2
            have y2 := keepC HBX0.out hcl.2.2 hb2
            have z0 := keepC HBX.out x0 (ltC x0)
            have hp0 := keepC HBX.out (cellC PB.out 0) hz1
            have hp1 := keepC HBX.out (cellC PB.out 1) hz1
            have hp2 := keepC HBX.out (cellC PB.out 2) hz1
            have hp3 := keepC HBX.out (cellC PB.out 3) hz1
            have hp4 := keepC HBX.out (cellC PB.out 4) hz1
            have hp5 := keepC HBX.out (cellC PB.out 5) hz1
            have PBX := Lib.hid ((HBX.out.block wo.heap.size hz1).trans PB.out)
            have hwx := HBX.out.size
            have HSY : Hid (∀ o, Shp (wr.alloc o)) := Lib.hid fun o => ((HSX.out.below HBX.out (Nat.le_refl _)).below ((Below.refl wr.heap.size wr).alloc (Nat.le_refl _) o) (Nat.le_refl _)).shp
            have HI2 := Lib.hid (fun W hW => HIN.out c.is[F + j] W HM.out hW)
            unfold inV at HI2
            generalize c.is[F + j] = x at *
            have e0 := fun o => newC hp0 o
            have e1 := fun o => newC hp1 o
            have e2 := fun o => newC hp2 o
            have e3 := fun o => newC hp3 o
            have e4 := fun o => newC hp4 o
            have e5 := fun o => newC hp5 o
            have ez := fun o => newC z0 o
            clear hp0 hp1 hp2 hp3 hp4 hp5 z0
            clear hbl hbg hbj ea hcl HJ
            have hj0 : (0 : Int) ≤ (j : Int) := by omega
            have hj1 : (j : Int) < ((T - F : Nat) : Int) := by omega
            cases hib : inB p c.ps.length x
            · rw [hib] at HI2
              have HF0 := Lib.hid (HJN.out hib)
              clear hib HJY HJN
              go_wp2_with (go_at_call 49; refine (HI2.out _ (HSY.out _)).mono ?_; rintro e w2 ⟨rfl, hB2⟩; have HB2 := Lib.hid hB2; clear hB2)
              go_ret
              refine ⟨ret_bool (by rw [HR0.out, HNO.out (by rw [HPB.out, HF0.out]; rfl)]), ?_⟩
              exact (HBX0.out.alloc HBX0.out.size _).trans (HB2.out.mono (Nat.le_trans HBX0.out.size (by simp)))
            · rw [hib] at HI2
              have HF0 := Lib.hid (HJY.out hib)
              clear hib HJY HJN
              go_wp2_with (go_at_call 49; refine (HI2.out _ (HSY.out _)).mono ?_; rintro e w2 ⟨rfl, hB2⟩; have HB2 := Lib.hid hB2; clear hB2)
              go_roundw
              case rel => exact ⟨j + 1, by omega, by go_num, HF0, Lib.hid ((HBX.out.alloc HBX.out.size _).trans (HB2.out.mono (Nat.le_trans HBX.out.size (by simp))))⟩
              case measure => simp [intOf]; omega
          · obtain rfl : j = T - F := by omega
            have HF0 : Hid ((body c p).all (inB p c.ps.length) = true) := Lib.hid (by
              have := HJ.out
              rw [List.take_of_length_le (by rw [HBG.out.1]; omega)] at this
              exact this)
            have HRN := Lib.hid (HYES.out (by rw [HPB.out, HF0.out]; rfl))
            have HBN : Hid (Below W0.heap.size W0 wr) := Lib.hid (HB01.out.trans (HBX.out.mono HB01.out.size))
            clear hj hjt HJ
            go_wp2
            go_roundw
            case rel => exact ⟨k + 1, by omega, by go_num, HRN, HBN⟩
            case measure => simp [intOf]; omega
    · obtain rfl : k = c.ps.length := by omega
      clear hlt hk
      go_wp2
      go_ret
      exact ⟨ret_bool (by have := HR.out; rw [List.take_length] at this; rw [HR0.out, this]), HB0.out.trans (HB.out.mono (by omega))⟩

end Go.Proofs.YtbhlockoeiedcaaGreatDoor
