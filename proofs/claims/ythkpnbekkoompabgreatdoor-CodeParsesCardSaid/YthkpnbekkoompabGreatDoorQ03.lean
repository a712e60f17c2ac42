/-
  code.inParts: are procedures and instructions right, as far as that doesn't hang on heights.
  code: a finder in memory; what an instruction takes and leaves.
  code: a place is given a height.
  code: an instruction leads to those that may come next (leadFrom).
-/
import Derived.Test.YthkpnbekkoompabGreatDoorQ02
import Derived.Laws.AppendOwn
import Derived.OwnWalk
import Derived.Deep.RegionWith
import Derived.BigRegion
import Derived.IntWalk
namespace Go.Proofs.YthkpnbekkoompabGreatDoor
open Go.RowKit

/-- The tables lie as the text lays them. -/
structure TS (w : World) : Prop where
  tabs : Tabs w
  shp : Shp w
theorem TS.below {w w' : World} {B : Nat} (h : TS w) (hb : Below B w w') (hB : w.heap.size ≤ B) : TS w' := ⟨h.tabs.below hb (Nat.le_trans h.tabs.2.2 hB), h.shp.keep (fun b o hlt => hb.cell (p := ⟨b, o, none⟩) (Nat.lt_of_lt_of_le hlt hB)) hb.size⟩
theorem TS.grow {w w' : World} {B : Nat} (h : TS w) (h0 : w.heap.size ≤ B) {W : World} (hb : Below B w W) (hb2 : Below B W w') : TS w' := h.below (hb.trans hb2) h0

theorem insFits_calls (x : InM) (p : PrM) (np : Nat) (w : World) (hp : p.mild) (hn : np ≤ maxLen) (hS : Shp w) :
    Calls Tryz.prog 55 #[inV x, prV p, .int .i64 (np : Int)] w fun e w' => e = .returned (.bool (inB p np x)) ∧ Below w.heap.size w w' := by
  by_cases h : 1 ≤ x.op ∧ x.op ≤ 29
  · exact insFits_in x p np w x.op.toNat (by omega) (by omega) (by omega) hp hn hS
  · exact insFits_out x p np w h

def partB (c : CoM) (p : PrM) : Bool := prB p && (body c p).all (inB p c.ps.length)
def partsB (c : CoM) : Bool := c.ps.all (partB c)
theorem partsB_iff (c : CoM) (hf : ∀ x ∈ c.is, x.fit) : partsB c = true ↔ parts c := by
  unfold partsB parts partB
  simp only [List.all_eq_true, Bool.and_eq_true]
  constructor
  · intro h p hp
    obtain ⟨h1, h2⟩ := h p hp
    exact ⟨(prB_iff p).1 h1, fun x hx => (inB_iff p _ x (hf x (List.mem_of_mem_drop (List.mem_of_mem_take hx)))).1 (h2 x hx)⟩
  · intro h p hp
    obtain ⟨h1, h2⟩ := h p hp
    exact ⟨(prB_iff p).2 h1, fun x hx => (inB_iff p _ x (hf x (List.mem_of_mem_drop (List.mem_of_mem_take hx)))).2 (h2 x hx)⟩
theorem all_no {α : Type} (l : List α) (f : α → Bool) (k : Nat) (h : k < l.length) (hf : f l[k] = false) : l.all f = false := by
  rw [Bool.eq_false_iff]
  intro e
  have := (List.all_eq_true.1 e) l[k] (List.getElem_mem h)
  rw [hf] at this; cases this
theorem all_step {α : Type} (l : List α) (f : α → Bool) (k : Nat) (h : k < l.length) (h1 : (l.take k).all f = true) (hf : f l[k] = true) : (l.take (k + 1)).all f = true := by
  rw [List.take_succ_eq_append_getElem h, List.all_append, h1, List.all_cons, hf]; rfl
theorem body_get {c : CoM} {p : PrM} {F T : Nat} (hF : p.frm = (F : Int)) (hT : p.to = (T : Int)) (hl : T ≤ c.is.length) (hFT : F ≤ T) : (body c p).length = T - F ∧ ∀ j (hj : j < (body c p).length) (hj2 : F + j < c.is.length), (body c p)[j] = c.is[F + j] := by
  have e1 : (F : Int).toNat = F := by omega
  have e2 : ((T : Int) - (F : Int)).toNat = T - F := by omega
  unfold body
  rw [hF, hT, e1, e2]
  refine ⟨by rw [List.length_take, List.length_drop]; omega, fun j hj hj2 => ?_⟩
  rw [List.getElem_take, List.getElem_drop]

set_option maxRecDepth 100000 in
set_option maxHeartbeats 4000000 in
theorem inParts_calls (c : CoM) (A A2 : Option Addr) (c1 c2 : Nat) (w : World) (hc : CoAt w w.heap.size A c1 A2 c2 c) (ho : ordC c) (hnm : ∀ p ∈ c.ps, p.name.length ≤ 100000) (hT : TS w) :
    Calls Tryz.prog 37 #[coV A c1 A2 c2 c] w fun e w' => e = .returned (.bool (partsB c)) ∧ Below w.heap.size w w' := by
  have hfew := hc.few
  have hcp := hc.capP
  have hci := hc.capI
  have hnpm : c.ps.length ≤ maxLen := by omega
  unfold maxLen at hfew
  have HC := Lib.hid hc
  have HPR := Lib.hid (fun k (hk : k < c.ps.length) => ho.range (List.getElem_mem hk))
  have HPT := Lib.hid (fun k (hk : k < c.ps.length) W (hW : Tabs W) => prFits_calls c.ps[k] (hnm _ (List.getElem_mem hk)) W hW)
  have HTS := Lib.hid hT
  have HFP := Lib.hid (fun k (hk : k < c.ps.length) => hc.fitP _ (List.getElem_mem hk))
  have HR0 := Lib.hid (show partsB c = c.ps.all (partB c) from rfl)
  unfold coV
  generalize partsB c = r at HR0 ⊢
  have HB0 := Lib.hid ((Below.refl w.heap.size w).alloc (Nat.le_refl _) (.cells #[.slice A c.ps.length c1, .slice A2 c.is.length c2] 26))
  have HX := Lib.hid (heapOne w #[.slice A c.ps.length c1, .slice A2 c.is.length c2] 26)
  clear hc ho hnm hT
  go_enter Tryz.func37, Tryz.ntmps37
  go_wp2
  generalize w.alloc (.cells #[.slice A c.ps.length c1, .slice A2 c.is.length c2] 26) = W0 at *
  have hsz0 : w.heap.size < W0.heap.size := (Array.getElem?_eq_some_iff.1 HX.out).1
  go_loopw [10] (fun i wr => ∃ (k : Nat), k ≤ c.ps.length ∧ i = .int .i64 k ∧ Hid ((c.ps.take k).all (partB c) = true) ∧ Hid (Below W0.heap.size W0 wr)) (fun i _ => c.ps.length - (intOf i).toNat)
  case atStart => exact ⟨0, by omega, rfl, Lib.hid rfl, Lib.hid (Below.refl _ _)⟩
  case round =>
    obtain ⟨k, hk, rfl, HR, HB⟩ := hrel
    obtain ⟨wo, rfl⟩ : ∃ x, x = wr := ⟨_, rfl⟩
    have x0 : wo.cell? ⟨w.heap.size, 0, none⟩ = some (.slice A c.ps.length c1) := keepC HB.out (cellC HX.out 0) hsz0
    have x1 : wo.cell? ⟨w.heap.size, 1, none⟩ = some (.slice A2 c.is.length c2) := keepC HB.out (cellC HX.out 1) hsz0
    by_cases hlt : k < c.ps.length
    · obtain ⟨b, off, rfl, hb, hcells⟩ := (HC.out.prs) (by omega)
      obtain ⟨q0, q1, q2, q3, q4, q5⟩ := hcells k hlt
      have kk : ∀ {o : Nat} {u : Value}, w.cell? ⟨b, o, none⟩ = some u → wo.cell? ⟨b, o, none⟩ = some u := fun hq => keepC HB.out (keepC HB0.out hq hb) (by omega)
      have q0 := kk q0
      have q1 := kk q1
      have q2 := kk q2
      have q3 := kk q3
      have q4 := kk q4
      have q5 := kk q5
      obtain ⟨r1, r2, r3, r4⟩ := HPR.out k hlt
      have HPT := Lib.hid (HPT.out k hlt)
      have HNO := Lib.hid (fun (h : partB c c.ps[k] = false) => all_no c.ps (partB c) k hlt h)
      have HYES := Lib.hid (fun (h : partB c c.ps[k] = true) => all_step c.ps (partB c) k hlt HR.out h)
      have HFP := Lib.hid (HFP.out k hlt)
      have HPB := Lib.hid (show partB c c.ps[k] = (prB c.ps[k] && (body c c.ps[k]).all (inB c.ps[k] c.ps.length)) from rfl)
      generalize c.ps[k] = p at *
      generalize hF : p.frm.toNat = F at *
      generalize hT : p.to.toNat = T at *
      have HBG := Lib.hid (body_get r1 r2 r4 (by omega))
      have HIN := Lib.hid (fun x W (hmild : p.mild) (hW : Shp W) => insFits_calls x p c.ps.length W hmild hnpm hW)
      have HMILD : prB p = true → Hid p.mild := fun h => Lib.hid (by
        have := (prB_iff p).1 h
        obtain ⟨m1, m2, _⟩ := this
        exact ⟨by omega, by omega, HFP.out⟩)
      unfold prV at HPT HIN
      rw [r1] at q1
      rw [r2] at q2
      rw [r1, r2] at HPT HIN
      have hk0 : (0 : Int) ≤ (k : Int) := by omega
      have hk1 : (k : Int) < (c.ps.length : Int) := by omega
      have hts : TS wo := HTS.out.below (HB0.out.trans (HB.out.mono (by omega))) (by omega)
      have HTW : Hid (∀ o, Tabs (wo.alloc o)) := Lib.hid fun o => (hts.below ((Below.refl wo.heap.size wo).alloc (Nat.le_refl _) o) (Nat.le_refl _)).tabs
      have HSW : Hid (∀ W, Below wo.heap.size wo W → TS W) := Lib.hid fun W hW => hts.below hW (Nat.le_refl _)
      have hszr := HB.out.size
      clear hts
      cases hpb : prB p
      · rw [hpb] at HPT HPB
        clear kk hcells hpb HMILD r1 r2 hF hT HFP
        go_wp2_with (go_at_call 54; refine (HPT.out _ (HTW.out _)).mono ?_; rintro e w1 ⟨rfl, hB1⟩; have HB1 := Lib.hid hB1; clear hB1)
        go_ret
        exact ⟨ret_bool (by rw [HR0.out, HNO.out (by rw [HPB.out]; rfl)]), (HB0.out.trans (HB.out.mono (by omega))).trans (((Below.refl wo.heap.size wo).alloc (Nat.le_refl _) _).trans (HB1.out.mono (by simp)) |>.mono (by omega))⟩
      · have HM := HMILD hpb
        rw [hpb] at HPT HPB
        clear kk hpb HMILD r1 r2 hF hT HFP hcells
        have hFl : (0 : Int) ≤ (F : Int) := by omega
        have hFT : (F : Int) ≤ (T : Int) := by omega
        have hTc : (T : Int) ≤ (c2 : Int) := by omega
        have hFc : (F : Int) < (c2 : Int) := by omega
        obtain ⟨b2, off2, rfl, hb2, hcells2⟩ := (HC.out.ins) (by omega)
        have HC2 := Lib.hid hcells2
        clear hcells2
        have PB0 := Lib.hid (heapOne wo #[.string (bs p.name), .int .i64 (F : Int), .int .i64 (T : Int), .int .i64 p.par, .int .i64 p.slo, .int .i64 p.typ] 56)
        go_wp2_with (go_at_call 54; refine (HPT.out _ (HTW.out _)).mono ?_; rintro e w1 ⟨rfl, hB1⟩; have HB1 := Lib.hid hB1; have PB := Lib.hid ((hB1.block wo.heap.size (by simp)).trans PB0.out); have x0 := keepC hB1 (newC x0 _) (by simp; omega); have x1 := keepC hB1 (newC x1 _) (by simp; omega); have p0 := cellC PB.out 0; have p1 := cellC PB.out 1; have p2 := cellC PB.out 2; have p3 := cellC PB.out 3; have p4 := cellC PB.out 4; have p5 := cellC PB.out 5; clear hB1 PB0 q0 q1 q2 q3 q4 q5)
        clear p0 p1 p2 p3 p4 p5
        have hz1 : wo.heap.size < w1.heap.size := by have := HB1.out.size; simp at this; omega
        have HBW := Lib.hid ((HB0.out.trans (HB.out.mono (by omega))).trans ((((Below.refl wo.heap.size wo).alloc (Nat.le_refl _) _).trans (HB1.out.mono (by simp))).mono (by omega)))
        have HB01 := Lib.hid (HB.out.trans ((((Below.refl wo.heap.size wo).alloc (Nat.le_refl _) _).trans (HB1.out.mono (by simp))).mono (by omega)))
        have HSX := Lib.hid (HSW.out w1 (((Below.refl wo.heap.size wo).alloc (Nat.le_refl _) _).trans (HB1.out.mono (by simp))))
        clear HB1 HTW HPT HB
        go_loopw [25] (fun i wx => ∃ (j : Nat), j ≤ T - F ∧ i = .int .i64 j ∧ Hid (((body c p).take j).all (inB p c.ps.length) = true) ∧ Hid (Below w1.heap.size w1 wx)) (fun i _ => (T - F) - (intOf i).toNat)
        case atStart => exact ⟨0, by omega, rfl, Lib.hid rfl, Lib.hid (Below.refl _ _)⟩
        case round =>
          obtain ⟨j, hj, rfl, HJ, HBX⟩ := hrel
          by_cases hjt : j < T - F
          · have hFj : F + j < c.is.length := by omega
            obtain ⟨hbl, hbg⟩ := HBG.out
            have hbj := hbg j (by omega) hFj
            have HJY := Lib.hid (all_step (body c p) (inB p c.ps.length) j (by omega) HJ.out)
            have HJN := Lib.hid (all_no (body c p) (inB p c.ps.length) j (by omega))
            rw [hbj] at HJY HJN
            have hcl := HC2.out (F + j) hFj
            have ea : off2 + (F + j) * 3 = off2 + F * 3 + j * 3 := by omega
            rw [ea] at hcl
            have HBX0 := Lib.hid (HBW.out.trans (HBX.out.mono (by have := HBW.out.size; omega)))
            have y0 := keepC HBX0.out hcl.1 hb2
            have y1 := keepC HBX0.out hcl.2.1 hb2
            have y2 := keepC HBX0.out hcl.2.2 hb2
            have z0 := keepC HBX.out x0 (ltC x0)
            have hp0 := keepC HBX.out (cellC PB.out 0) hz1
            have hp1 := keepC HBX.out (cellC PB.out 1) hz1
            have hp2 := keepC HBX.out (cellC PB.out 2) hz1
            have hp3 := keepC HBX.out (cellC PB.out 3) hz1
            have hp4 := keepC HBX.out (cellC PB.out 4) hz1
            have hp5 := keepC HBX.out (cellC PB.out 5) hz1
            have PBX := Lib.hid ((HBX.out.block wo.heap.size hz1).trans PB.out)
            have hwx := HBX.out.size
            have HSY : Hid (∀ o, Shp (wr.alloc o)) := Lib.hid fun o => ((HSX.out.below HBX.out (Nat.le_refl _)).below ((Below.refl wr.heap.size wr).alloc (Nat.le_refl _) o) (Nat.le_refl _)).shp
            have HI2 := Lib.hid (fun W hW => HIN.out c.is[F + j] W HM.out hW)
            unfold inV at HI2
            generalize c.is[F + j] = x at *
            have e0 := fun o => newC hp0 o
            have e1 := fun o => newC hp1 o
            have e2 := fun o => newC hp2 o
            have e3 := fun o => newC hp3 o
            have e4 := fun o => newC hp4 o
            have e5 := fun o => newC hp5 o
            have ez := fun o => newC z0 o
            clear hp0 hp1 hp2 hp3 hp4 hp5 z0
            clear hbl hbg hbj ea hcl HJ
            have hj0 : (0 : Int) ≤ (j : Int) := by omega
            have hj1 : (j : Int) < ((T - F : Nat) : Int) := by omega
            cases hib : inB p c.ps.length x
            · rw [hib] at HI2
              have HF0 := Lib.hid (HJN.out hib)
              clear hib HJY HJN
              go_wp2_with (go_at_call 55; refine (HI2.out _ (HSY.out _)).mono ?_; rintro e w2 ⟨rfl, hB2⟩; have HB2 := Lib.hid hB2; clear hB2)
              go_ret
              refine ⟨ret_bool (by rw [HR0.out, HNO.out (by rw [HPB.out, HF0.out]; rfl)]), ?_⟩
              exact (HBX0.out.alloc HBX0.out.size _).trans (HB2.out.mono (Nat.le_trans HBX0.out.size (by simp)))
            · rw [hib] at HI2
              have HF0 := Lib.hid (HJY.out hib)
              clear hib HJY HJN
              go_wp2_with (go_at_call 55; refine (HI2.out _ (HSY.out _)).mono ?_; rintro e w2 ⟨rfl, hB2⟩; have HB2 := Lib.hid hB2; clear hB2)
              go_roundw
              case rel => exact ⟨j + 1, by omega, by go_num, HF0, Lib.hid ((HBX.out.alloc HBX.out.size _).trans (HB2.out.mono (Nat.le_trans HBX.out.size (by simp))))⟩
              case measure => simp [intOf]; omega
          · obtain rfl : j = T - F := by omega
            have HF0 : Hid ((body c p).all (inB p c.ps.length) = true) := Lib.hid (by
              have := HJ.out
              rw [List.take_of_length_le (by rw [HBG.out.1]; omega)] at this
              exact this)
            have HRN := Lib.hid (HYES.out (by rw [HPB.out, HF0.out]; rfl))
            have HBN : Hid (Below W0.heap.size W0 wr) := Lib.hid (HB01.out.trans (HBX.out.mono HB01.out.size))
            clear hj hjt HJ
            go_wp2
            go_roundw
            case rel => exact ⟨k + 1, by omega, by go_num, HRN, HBN⟩
            case measure => simp [intOf]; omega
    · obtain rfl : k = c.ps.length := by omega
      clear hlt hk
      go_wp2
      go_ret
      exact ⟨ret_bool (by have := HR.out; rw [List.take_length] at this; rw [HR0.out, this]), HB0.out.trans (HB.out.mono (by omega))⟩

end Go.Proofs.YthkpnbekkoompabGreatDoor

namespace Go.Proofs.YthkpnbekkoompabGreatDoor
open Go.RowKit

def intsL (hs : List Int) : List Value := hs.map fun x => Value.int .i64 x
def wsL (ws : List Nat) : List Value := ws.map fun (x : Nat) => Value.int .i64 (x : Int)
theorem Tryz.infoInt : (Tryz.prog.info? 3).map (fun i => (i.zero, i.size, i.bytes)) = some (some (.int .i64 0), 1, 8) := by kernel_rfl
/-- A finder: its code, its procedure, the heights, those that wait. -/
structure Fd (c : CoM) (A : Option Addr) (c1 : Nat) (A2 : Option Addr) (c2 : Nat) (p : PrM) (q gH f : Nat) (hs : List Int) (vW : Value) (ws : List Nat) (w : World) : Prop where
  box : w.heap[f]? = some (.cells #[.slice A c.ps.length c1, .slice A2 c.is.length c2, .string (bs p.name), .int .i64 p.frm, .int .i64 p.to, .int .i64 p.par, .int .i64 p.slo, .int .i64 p.typ, .slice (some ⟨gH, 0, none⟩) hs.length hs.length, vW] 89 (0, 0))
  hts : w.heap[gH]? = some (.cells (intsL hs).toArray 3 (0, 0))
  wait : w.ownsRow (f + 1) 3 1 vW ws.length (wsL ws)
  co : CoAt w q A c1 A2 c2 c
  shp : Shp w
  lt : 0 < q ∧ q ≤ gH ∧ gH < f
  len : hs.length = c.is.length
  few : c.is.length ≤ 100000
section
variable {c : CoM} {A A2 : Option Addr} {c1 c2 : Nat} {p : PrM} {q gH f : Nat} {hs : List Int} {vW : Value} {ws : List Nat} {w : World}
theorem own_keepC {w w' : World} {base n : Nat} {e : TypeId} {size : Nat} {v : Value} {xs : List Value} (h : w.ownsRow base e size v n xs) (hk : ∀ g, v.ownBlock = some g → w'.heap[g]? = w.heap[g]?) : w'.ownsRow base e size v n xs := by
  refine ⟨h.1, ?_⟩
  rcases h.2 with h0 | ⟨g, cap, cur, rfl, hb, hg, h1, h2, h3, h4⟩
  · exact .inl h0
  · exact .inr ⟨g, cap, cur, rfl, hb, by rw [hk g rfl]; exact hg, h1, h2, h3, h4⟩
theorem own_ltC {w : World} {base n : Nat} {e : TypeId} {size : Nat} {v : Value} {xs : List Value} (h : w.ownsRow base e size v n xs) (g : Nat) (hg : v.ownBlock = some g) : base ≤ g ∧ g < w.heap.size := h.lt g hg
theorem blkLt {w : World} {B : Nat} {o : Obj} (h : w.heap[B]? = some o) : B < w.heap.size := (Array.getElem?_eq_some_iff.1 h).1
theorem Fd.flt (h : Fd c A c1 A2 c2 p q gH f hs vW ws w) : f < w.heap.size := blkLt h.box
theorem Fd.below {w' : World} (h : Fd c A c1 A2 c2 p q gH f hs vW ws w) (hb : Below w.heap.size w w') : Fd c A c1 A2 c2 p q gH f hs vW ws w' := by
  have h1 := h.flt
  have h2 := h.lt
  exact ⟨(hb.block f h1).trans h.box, (hb.block gH (by omega)).trans h.hts, own_keepC h.wait fun g hg => hb.block g (h.wait.lt g hg).2, h.co.below hb (by omega), h.shp.below hb, h.lt, h.len, h.few⟩
theorem Fd.cells (h : Fd c A c1 A2 c2 p q gH f hs vW ws w) : w.cell? ⟨f, 0, none⟩ = some (.slice A c.ps.length c1) ∧ w.cell? ⟨f, 1, none⟩ = some (.slice A2 c.is.length c2) ∧ w.cell? ⟨f, 3, none⟩ = some (.int .i64 p.frm) ∧ w.cell? ⟨f, 4, none⟩ = some (.int .i64 p.to) ∧ w.cell? ⟨f, 8, none⟩ = some (.slice (some ⟨gH, 0, none⟩) hs.length hs.length) ∧ w.cell? ⟨f, 9, none⟩ = some vW ∧ (∀ o, w.frozen? ⟨f, o, none⟩ = false) :=
  ⟨cellC h.box 0, cellC h.box 1, cellC h.box 3, cellC h.box 4, cellC h.box 8, cellC h.box 9, fun o => by simp [World.frozen?, h.box]⟩
theorem Fd.at (h : Fd c A c1 A2 c2 p q gH f hs vW ws w) (i : Nat) (hi : i < hs.length) : w.cell? ⟨gH, i, none⟩ = some (.int .i64 (hAt hs i)) ∧ w.frozen? ⟨gH, i, none⟩ = false := by
  refine ⟨?_, by simp [World.frozen?, h.hts]⟩
  rw [cellC h.hts i]
  unfold intsL hAt
  rw [List.getD_eq_getElem?_getD, List.getElem?_eq_getElem hi]
  simp [hi]
end

theorem inOk_call {p : PrM} {np : Nat} {x : InM} (h : inOk p np x) (e : x.op = 26) : ∃ k : Nat, x.arg = (k : Int) ∧ k < np := by
  have ha := h.2.1
  unfold argOk at ha
  rw [if_neg (by omega), if_neg (by omega), if_neg (by omega), if_neg (by omega), if_pos e] at ha
  exact ⟨x.arg.toNat, by omega, by omega⟩

section
variable {c : CoM} {A A2 : Option Addr} {c1 c2 : Nat} {p : PrM} {q gH f : Nat} {hs : List Int} {vW : Value} {ws : List Nat} {w : World}
set_option maxRecDepth 100000 in
set_option maxHeartbeats 2000000 in
theorem takes_calls (h : Fd c A c1 A2 c2 p q gH f hs vW ws w) (x : InM) (hx : inOk p c.ps.length x) :
    Calls Tryz.prog 76 #[.pointer (some ⟨f, 0, none⟩), inV x] w fun e w' => e = .returned (.int .i64 (takesM c x)) ∧ Below w.heap.size w w' := by
  unfold inV takesM
  obtain ⟨d0, _⟩ := h.cells
  have hfl := h.flt
  have hql := h.lt
  by_cases h26 : x.op = 26
  · rw [if_pos h26, h26]
    obtain ⟨k, hk, hkl⟩ := inOk_call hx h26
    rw [hk]
    obtain ⟨b, off, rfl, hb, hcells⟩ := h.co.prs (by omega)
    have g3 := (hcells k hkl).2.2.2.1
    have e : c.ps.getD (k : Int).toNat noPr = c.ps[k] := by
      have : (k : Int).toNat = k := by omega
      rw [this, List.getD_eq_getElem?_getD, List.getElem?_eq_getElem hkl]; rfl
    rw [e]
    clear e hcells hx h26 hk
    generalize c.ps[k] = y at *
    have g3 := fun o => newC g3 o
    have d0 := fun o => newC d0 o
    have hk0 : (0 : Int) ≤ (k : Int) := by omega
    have hk1 : (k : Int) < (c.ps.length : Int) := by omega
    clear h
    go_enter Tryz.func76, Tryz.ntmps76
    go_wp2
    go_quiet (fail)
    go_wp2
    go_ret
    exact ⟨rfl, below_drewC ((Below.refl _ _).alloc (Nat.le_refl _) _) _⟩
  · rw [if_neg h26]
    have e1 : (x.op == 26) = false := beq_eq_false_iff_ne.2 h26
    by_cases h27 : x.op = 27
    · rw [if_pos h27]
      have e2 : (x.op == 27) = true := beq_iff_eq.2 h27
      clear h26 h27 h hx d0
      go_enter Tryz.func76, Tryz.ntmps76
      go_wp2
      go_ret
      exact ⟨rfl, (Below.refl _ _).alloc (Nat.le_refl _) _⟩
    · rw [if_neg h27]
      have e2 : (x.op == 27) = false := beq_eq_false_iff_ne.2 h27
      obtain ⟨k, hk⟩ : ∃ k : Nat, x.op = (k : Int) := ⟨x.op.toNat, by have := hx.1; omega⟩
      have hk30 : k < 30 := by have := hx.1; omega
      rw [hk] at e1 e2 ⊢
      have e3 : (k : Int).toNat = k := by omega
      rw [e3]
      have s1 := (h.shp.1 k hk30).2.2.1
      generalize tkL.getD k 0 = v at *
      have s1 := fun o => newC s1 o
      have hk0 : (0 : Int) ≤ (k : Int) := by omega
      have hk1 : (k : Int) < 30 := by omega
      clear h26 h27 h hx d0 hk e3
      go_enter Tryz.func76, Tryz.ntmps76
      go_wp2
      go_ret
      exact ⟨rfl, (Below.refl _ _).alloc (Nat.le_refl _) _⟩

set_option maxRecDepth 100000 in
set_option maxHeartbeats 2000000 in
theorem leaves_calls (h : Fd c A c1 A2 c2 p q gH f hs vW ws w) (x : InM) (hx : inOk p c.ps.length x) :
    Calls Tryz.prog 77 #[.pointer (some ⟨f, 0, none⟩), inV x] w fun e w' => e = .returned (.int .i64 (leavesM c x)) ∧ Below w.heap.size w w' := by
  unfold inV leavesM
  obtain ⟨d0, _⟩ := h.cells
  have hfl := h.flt
  have hql := h.lt
  by_cases h26 : x.op = 26
  · rw [if_pos h26, h26]
    obtain ⟨k, hk, hkl⟩ := inOk_call hx h26
    rw [hk]
    obtain ⟨b, off, rfl, hb, hcells⟩ := h.co.prs (by omega)
    obtain ⟨g0, g1, g2, g3, g4, g5⟩ := hcells k hkl
    have e : c.ps.getD (k : Int).toNat noPr = c.ps[k] := by
      have : (k : Int).toNat = k := by omega
      rw [this, List.getD_eq_getElem?_getD, List.getElem?_eq_getElem hkl]; rfl
    rw [e]
    clear e hcells hx h26 hk
    generalize c.ps[k] = y at *
    have HA := Lib.hid (fun W => answers_calls y W)
    unfold prV at HA
    have HX0 := Lib.hid (heapOne w #[.int .i64 26, .int .i64 (k : Int), .int .i64 x.mor] 42)
    have HB0 := Lib.hid ((Below.refl w.heap.size w).alloc (Nat.le_refl _) (.cells #[.int .i64 26, .int .i64 (k : Int), .int .i64 x.mor] 42))
    have hk0 : (0 : Int) ≤ (k : Int) := by omega
    have hk1 : (k : Int) < (c.ps.length : Int) := by omega
    clear h
    go_enter Tryz.func77, Tryz.ntmps77
    go_wp2
    generalize w.alloc (.cells #[.int .i64 26, .int .i64 (k : Int), .int .i64 x.mor] 42) = W0 at *
    have x1 : W0.drew.cell? ⟨w.heap.size, 1, none⟩ = some (.int .i64 (k : Int)) := cellC HX0.out 1
    have d0 := keepC HB0.out.drew d0 (ltC d0)
    have g0 := keepC HB0.out.drew g0 (ltC g0)
    have g1 := keepC HB0.out.drew g1 (ltC g1)
    have g2 := keepC HB0.out.drew g2 (ltC g2)
    have g3 := keepC HB0.out.drew g3 (ltC g3)
    have g4 := keepC HB0.out.drew g4 (ltC g4)
    have g5 := keepC HB0.out.drew g5 (ltC g5)
    have HBc := Lib.hid HB0.out.drew
    go_region_held3 (fun w' => w'.cell? ⟨f, 0, none⟩ = some (.slice (some ⟨b, off, none⟩) c.ps.length c1) ∧ w'.cell? ⟨w.heap.size, 1, none⟩ = some (.int .i64 (k : Int)) ∧ w'.cell? ⟨b, off + k * 6, none⟩ = some (.string (bs y.name)) ∧ w'.cell? ⟨b, off + k * 6 + 1, none⟩ = some (.int .i64 y.frm) ∧ w'.cell? ⟨b, off + k * 6 + 2, none⟩ = some (.int .i64 y.to) ∧ w'.cell? ⟨b, off + k * 6 + 3, none⟩ = some (.int .i64 y.par) ∧ w'.cell? ⟨b, off + k * 6 + 4, none⟩ = some (.int .i64 y.slo) ∧ w'.cell? ⟨b, off + k * 6 + 5, none⟩ = some (.int .i64 y.typ))
      (with_reducible exact ⟨d0, x1, g0, g1, g2, g3, g4, g5⟩)
      ((go_at_call 92; refine (HA.out _).mono ?_; rintro e w5 ⟨rfl, hb5⟩; have HBc := Lib.hid (HBc.out.trans (hb5.mono HBc.out.size)); have d0 := keepC hb5 d0 (ltC d0); have x1 := keepC hb5 x1 (ltC x1); have g0 := keepC hb5 g0 (ltC g0); have g1 := keepC hb5 g1 (ltC g1); have g2 := keepC hb5 g2 (ltC g2); have g3 := keepC hb5 g3 (ltC g3); have g4 := keepC hb5 g4 (ltC g4); have g5 := keepC hb5 g5 (ltC g5); clear hb5))
    all_goals
      go_wp2
      go_ret
      exact ⟨rfl, HBc.out⟩
  · rw [if_neg h26]
    have e1 : (x.op == 26) = false := beq_eq_false_iff_ne.2 h26
    obtain ⟨k, hk⟩ : ∃ k : Nat, x.op = (k : Int) := ⟨x.op.toNat, by have := hx.1; omega⟩
    have hk30 : k < 30 := by have := hx.1; omega
    rw [hk] at e1 ⊢
    have e3 : (k : Int).toNat = k := by omega
    rw [e3]
    have s1 := (h.shp.1 k hk30).2.2.2
    generalize lvL.getD k 0 = v at *
    have s1 := fun o => newC s1 o
    have hk0 : (0 : Int) ≤ (k : Int) := by omega
    have hk1 : (k : Int) < 30 := by omega
    clear h26 h hx d0 hk e3
    go_enter Tryz.func77, Tryz.ntmps77
    go_wp2
    go_ret
    exact ⟨rfl, (Below.refl _ _).alloc (Nat.le_refl _) _⟩
end

end Go.Proofs.YthkpnbekkoompabGreatDoor

namespace Go.Proofs.YthkpnbekkoompabGreatDoor
open Go.RowKit

theorem setAt (w : World) (g o : Nat) (v : Value) (cur : Array Value) (t : TypeId) (fr : Nat × Nat) (hg : w.heap[g]? = some (.cells cur t fr)) : (w.setCell ⟨g, o, none⟩ v).heap[g]? = some (.cells (cur.setIfInBounds o v) t fr) := by
  simp [World.setCell, Array.getElem?_modify, hg]
theorem setNe (w : World) (g o : Nat) (v : Value) (k : Nat) (h : k ≠ g) : (w.setCell ⟨g, o, none⟩ v).heap[k]? = w.heap[k]? := by
  simp [World.setCell, Array.getElem?_modify, Ne.symm h]
/-- What a finder's calls leave as it was: all that was there ahead of it, but the heights. -/
structure FK (gH f : Nat) (w w' : World) : Prop where
  os : w'.os = w.os
  tape : w'.tape = w.tape
  output : w'.output = w.output
  size : w.heap.size ≤ w'.heap.size
  block : ∀ k, k < f → k ≠ gH → w'.heap[k]? = w.heap[k]?
theorem FK.refl (gH f : Nat) (w : World) : FK gH f w w := ⟨rfl, rfl, rfl, Nat.le_refl _, fun _ _ _ => rfl⟩
theorem FK.trans {gH f : Nat} {a b c : World} (h : FK gH f a b) (k : FK gH f b c) : FK gH f a c := ⟨k.os.trans h.os, k.tape.trans h.tape, k.output.trans h.output, Nat.le_trans h.size k.size, fun i h1 h2 => (k.block i h1 h2).trans (h.block i h1 h2)⟩
theorem FK.of {gH f : Nat} {w w' : World} (h : Below w.heap.size w w') (hf : f ≤ w.heap.size) : FK gH f w w' := ⟨h.os, h.tape, h.output, h.size, fun k hk _ => h.block k (by omega)⟩
theorem intsL_set (hs : List Int) (i : Nat) (x : Int) : ((intsL hs).toArray.setIfInBounds i (.int .i64 x)) = (intsL (hs.set i x)).toArray := by
  unfold intsL
  rw [List.map_set, List.setIfInBounds_toArray]
theorem own_sliceC {w : World} {base n : Nat} {e : TypeId} {size : Nat} {v : Value} {xs : List Value} (h : w.ownsRow base e size v n xs) : ∃ A c, v = .slice A n c := by
  rcases h.2 with ⟨rfl, rfl⟩ | ⟨g, cap, cur, rfl, _⟩
  · exact ⟨_, _, rfl⟩
  · exact ⟨_, _, rfl⟩
theorem wsL_snoc (ws : List Nat) (a : Nat) : wsL (ws ++ [a]) = wsL ws ++ [.int .i64 (a : Int)] := by simp [wsL]

section
variable {c : CoM} {A A2 : Option Addr} {c1 c2 : Nat} {p : PrM} {q gH f : Nat} {hs : List Int} {vW : Value} {ws : List Nat} {w : World}
def LeadP (c : CoM) (A : Option Addr) (c1 : Nat) (A2 : Option Addr) (c2 : Nat) (p : PrM) (q gH f : Nat) (R : Bool × List Int × List Nat) (w : World) (e : Ending) (w' : World) : Prop :=
  e = .returned (.bool R.1) ∧ ∃ vW', Fd c A c1 A2 c2 p q gH f R.2.1 vW' R.2.2 w' ∧ FK gH f w w'

/-- And all other blocks that were there. -/
def LeadQ (c : CoM) (A : Option Addr) (c1 : Nat) (A2 : Option Addr) (c2 : Nat) (p : PrM) (q gH f : Nat) (vW : Value) (R : Bool × List Int × List Nat) (w : World) (e : Ending) (w' : World) : Prop :=
  e = .returned (.bool R.1) ∧ ∃ vW', Fd c A c1 A2 c2 p q gH f R.2.1 vW' R.2.2 w' ∧ FK gH f w w' ∧ ∀ k, k < w.heap.size → k ≠ gH → k ≠ f → vW.ownBlock ≠ some k → w'.heap[k]? = w.heap[k]?
theorem LeadQ.less {R : Bool × List Int × List Nat} {e : Ending} {w' : World} (h : LeadQ c A c1 A2 c2 p q gH f vW R w e w') : LeadP c A c1 A2 c2 p q gH f R w e w' := ⟨h.1, h.2.imp fun _ hv => ⟨hv.1, hv.2.1⟩⟩

theorem newsI (W : World) (a : Value) (t : TypeId) (n : Nat) (hn : W.heap.size = n) : ∀ j u, [a][j]? = some u → (W.alloc (.cells #[a] t)).cell? ((⟨n, 0, none⟩ : Addr).add j) = some u := by
  subst hn
  intro j u hu
  match j with
  | 0 => simpa [Addr.add] using hu
  | j + 1 => simp at hu
theorem oneI (x : Int) : ∀ u ∈ [Value.int .i64 x], u.oneCell' = true := by
  intro u hu; simp at hu; subst hu; rfl

set_option maxRecDepth 100000 in
set_option maxHeartbeats 2000000 in
theorem lead_no (h : Fd c A c1 A2 c2 p q gH f hs vW ws w) (T to : Nat) (x : Int) (hT : p.to = (T : Int)) (hb : T ≤ to ∨ 200 < x) :
    Calls Tryz.prog 57 #[.pointer (some ⟨f, 0, none⟩), .int .i64 (to : Int), .int .i64 x] w (LeadQ c A c1 A2 c2 p q gH f vW (leadM T hs ws (to, x)) w) := by
  have HM : Hid (leadM T hs ws (to, x) = (false, hs, ws)) := Lib.hid (by unfold leadM; rw [if_pos hb])
  obtain ⟨_, _, _, d4, _⟩ := h.cells
  rw [hT] at d4
  have HF := Lib.hid h
  have hd : (decide ((T : Int) ≤ (to : Int)) = true ∧ decide (T ≤ to) = true) ∨ (decide ((T : Int) ≤ (to : Int)) = false ∧ decide (T ≤ to) = false ∧ decide (200 < x) = true) := by
    by_cases h1 : T ≤ to
    · exact .inl ⟨decide_eq_true (by omega), decide_eq_true h1⟩
    · exact .inr ⟨decide_eq_false (by omega), decide_eq_false h1, decide_eq_true (by omega)⟩
  clear h hT hb
  rcases hd with ⟨e1, e2⟩ | ⟨e1, e2, e3⟩
  all_goals
    go_enter Tryz.func57, Tryz.ntmps57
    go_wp2
    go_ret
    refine ⟨ret_bool (by rw [HM.out]), ?_⟩
    rw [HM.out]
    exact ⟨vW, HF.out, FK.refl _ _ _, fun _ _ _ _ _ => rfl⟩

set_option maxRecDepth 100000 in
set_option maxHeartbeats 2000000 in
theorem lead_old (h : Fd c A c1 A2 c2 p q gH f hs vW ws w) (T to : Nat) (x : Int) (hT : p.to = (T : Int)) (hl : T ≤ hs.length) (hb : ¬ (T ≤ to ∨ 200 < x)) (hn : hAt hs to ≠ -1) :
    Calls Tryz.prog 57 #[.pointer (some ⟨f, 0, none⟩), .int .i64 (to : Int), .int .i64 x] w (LeadQ c A c1 A2 c2 p q gH f vW (leadM T hs ws (to, x)) w) := by
  have HM : Hid (leadM T hs ws (to, x) = (decide (hAt hs to = x), hs, ws)) := Lib.hid (by unfold leadM; rw [if_neg hb, if_neg hn])
  obtain ⟨_, _, _, d4, d8, _⟩ := h.cells
  obtain ⟨q1, _⟩ := h.at to (by omega)
  rw [hT] at d4
  have HF := Lib.hid h
  have e1 : decide ((T : Int) ≤ (to : Int)) = false := decide_eq_false (by omega)
  have e2 : decide (T ≤ to) = false := decide_eq_false (by omega)
  have e3 : decide (200 < x) = false := decide_eq_false (by omega)
  have e4 : (hAt hs to == -1) = false := beq_eq_false_iff_ne.2 hn
  have g0 : (0 : Int) ≤ (to : Int) := by omega
  have g1 : (to : Int) < (hs.length : Int) := by omega
  generalize hAt hs to = y at *
  clear h hT hb hn hl
  go_enter Tryz.func57, Tryz.ntmps57
  go_wp2
  go_ret
  refine ⟨ret_bool (by rw [HM.out]; simp [Bool.beq_eq_decide_eq]), ?_⟩
  rw [HM.out]
  exact ⟨vW, HF.out, FK.refl _ _ _, fun _ _ _ _ _ => rfl⟩

set_option maxRecDepth 100000 in
set_option maxHeartbeats 2000000 in
theorem lead_new (h : Fd c A c1 A2 c2 p q gH f hs vW ws w) (T to : Nat) (x : Int) (hT : p.to = (T : Int)) (hl : T ≤ hs.length) (hb : ¬ (T ≤ to ∨ 200 < x)) (hn : hAt hs to = -1) (hw : ws.length ≤ 1000000) :
    Calls Tryz.prog 57 #[.pointer (some ⟨f, 0, none⟩), .int .i64 (to : Int), .int .i64 x] w (LeadQ c A c1 A2 c2 p q gH f vW (leadM T hs ws (to, x)) w) := by
  have HM : Hid (leadM T hs ws (to, x) = (true, hs.set to x, ws ++ [to])) := Lib.hid (by unfold leadM; rw [if_neg hb, if_pos hn])
  obtain ⟨i0, hi0, hz0, hz1, hz2⟩ := info_parts Tryz.infoInt
  obtain ⟨_, _, _, d4, d8, d9, dfz⟩ := h.cells
  have dfz := dfz 9
  obtain ⟨q1, qf⟩ := h.at to (by omega)
  rw [hT] at d4
  rw [hn] at q1
  have hql := h.lt
  have hfl := h.flt
  have hto : to < hs.length := by omega
  have hne : ¬ gH = f := by omega
  have hne' : ¬ f = gH := by omega
  have HF := Lib.hid h
  have e1 : decide ((T : Int) ≤ (to : Int)) = false := decide_eq_false (by omega)
  have e2 : decide (T ≤ to) = false := decide_eq_false (by omega)
  have e3 : decide (200 < x) = false := decide_eq_false (by omega)
  have g0 : (0 : Int) ≤ (to : Int) := by omega
  have g1 : (to : Int) < (hs.length : Int) := by omega
  -- the worlds
  have HW1 : Hid ((w.setCell ⟨gH, to, none⟩ (.int .i64 x)).heap[gH]? = some (.cells (intsL (hs.set to x)).toArray 3 (0, 0))) := Lib.hid (by
    rw [← intsL_set]; exact setAt w gH to _ _ _ _ h.hts)
  have HW2 : Hid (∀ k, k ≠ gH → (w.setCell ⟨gH, to, none⟩ (.int .i64 x)).heap[k]? = w.heap[k]?) := Lib.hid fun k hk => setNe w gH to _ k hk
  have HZ1 : (w.setCell ⟨gH, to, none⟩ (.int .i64 x)).heap.size = w.heap.size := by simp
  have hown : Hid (((w.setCell ⟨gH, to, none⟩ (.int .i64 x)).alloc (.cells #[.int .i64 (to : Int)] 3)).ownsRow (f + 1) 3 1 vW ws.length (wsL ws)) := Lib.hid (by
    refine own_keepC h.wait fun g hg => ?_
    have := own_ltC h.wait g hg
    rw [Below.heap_alloc _ _ g (by rw [HZ1]; exact this.2)]
    exact setNe w gH to _ g (by omega))
  have HOW : Hid (∀ g, vW.ownBlock = some g → f + 1 ≤ g) := Lib.hid fun g hg => (own_ltC h.wait g hg).1
  have HNW := Lib.hid (newsI (w.setCell ⟨gH, to, none⟩ (.int .i64 x)) (.int .i64 (to : Int)) 3 w.heap.size HZ1)
  clear h hT hb hn hl
  have HZ := Lib.hid HZ1
  clear HZ1
  go_enter Tryz.func57, Tryz.ntmps57
  go_wp2_with (at_builtin; refine wpList_append_own _ rfl _ _ 52 rfl (f + 1) 3 i0 (.int .i64 0) 1 8 Tryz.underlying52 hi0 hz0 hz1 hz2 rfl (by decide) vW ws.length (wsL ws) rfl hown.out ⟨w.heap.size, 0, none⟩ 1 1 [.int .i64 (to : Int)] (by rfl) rfl HNW.out (oneI _) (by unfold maxLen; omega) (by omega) (by simp; omega) ?_; intro v' w3 hown3 hgrow hnil; clear hnil; obtain ⟨A', c', rfl⟩ := own_sliceC hown3; have hb3 := Lib.hid ((hgrow.block f (by simp; omega) (fun e => by have := HOW.out f e.symm; omega)).trans ((Below.heap_alloc _ _ f (by rw [HZ.out]; exact hfl)).trans ((HW2.out f (by omega)).trans HF.out.box))); have hg3 := Lib.hid ((hgrow.block gH (by simp; omega) (fun e => by have := HOW.out gH e.symm; omega)).trans ((Below.heap_alloc _ _ gH (by rw [HZ.out]; omega)).trans HW1.out)); have HG := Lib.hid hgrow; have H3 := Lib.hid hown3; have hf3 : w3.frozen? ⟨f, 9, none⟩ = false := (by simp [World.frozen?, hb3.out]); have h9 : w3.cell? ⟨f, 9, none⟩ = some vW := cellC hb3.out 9; have h8 : w3.cell? ⟨f, 8, none⟩ = some (.slice (some ⟨gH, 0, none⟩) hs.length hs.length) := cellC hb3.out 8; have hq3 : w3.cell? ⟨gH, to, none⟩ = some (.int .i64 x) := (by rw [cellC hg3.out to]; simp [intsL, hto]); clear hgrow hown3)
  all_goals
    go_ret
    refine ⟨ret_bool (by rw [HM.out]), ?_⟩
    rw [HM.out]
    have hB3 : FK gH f w w3 := by
      refine ⟨HG.out.os, HG.out.tape, HG.out.output, Nat.le_trans (by simp) HG.out.size, fun k h1 h2 => ?_⟩
      rw [HG.out.block k (by simp; omega) (fun e => by have := HOW.out k e.symm; omega), Below.heap_alloc _ _ k (by rw [HZ.out]; omega), HW2.out k h2]
    have hs3 : w.heap.size ≤ w3.heap.size := hB3.size
    have key : ∀ k, k < f → k ≠ gH → (w3.setCell ⟨f, 9, none⟩ (.slice A' (ws.length + 1) c')).heap[k]? = w.heap[k]? := fun k h1 h2 => (setNe w3 f 9 _ k (by omega)).trans (hB3.block k h1 h2)
    refine ⟨.slice A' (ws.length + 1) c', ⟨?_, ?_, ?_, ?_, ?_, hql, ?_, HF.out.few⟩, ⟨hB3.os, hB3.tape, hB3.output, by simp; omega, fun k h1 h2 => (setNe w3 f 9 _ k (by omega)).trans (hB3.block k h1 h2)⟩, fun k h1 h2 h3 h4 => ?_⟩
    · rw [setAt w3 f 9 _ _ _ _ hb3.out, List.length_set]; rfl
    · exact (setNe w3 f 9 _ gH hne).trans hg3.out
    · rw [List.length_append, List.length_singleton, wsL_snoc]
      exact own_keepC H3.out fun g hg => setNe w3 f 9 _ g (by have := (own_ltC H3.out g hg).1; omega)
    · exact HF.out.co.keep fun b o hb => World.cell?_of_block (a := ⟨b, o, none⟩) (key b (by omega) (by omega))
    · exact HF.out.shp.at' (fun o => World.cell?_of_block (a := ⟨0, o, none⟩) (key 0 (by omega) (by omega))) (by simp; omega)
    · rw [List.length_set]; exact HF.out.len
    · rw [setNe w3 f 9 _ k h3, HG.out.block k (by simp; omega) (fun e => h4 e.symm), Below.heap_alloc _ _ k (by rw [HZ.out]; exact h1), HW2.out k h2]

theorem lead_callsQ (h : Fd c A c1 A2 c2 p q gH f hs vW ws w) (T to : Nat) (x : Int) (hT : p.to = (T : Int)) (hl : T ≤ c.is.length) (hw : ws.length ≤ 1000000) :
    Calls Tryz.prog 57 #[.pointer (some ⟨f, 0, none⟩), .int .i64 (to : Int), .int .i64 x] w (LeadQ c A c1 A2 c2 p q gH f vW (leadM T hs ws (to, x)) w) := by
  have hl' : T ≤ hs.length := by rw [h.len]; exact hl
  by_cases hb : T ≤ to ∨ 200 < x
  · exact lead_no h T to x hT hb
  · by_cases hn : hAt hs to = -1
    · exact lead_new h T to x hT hl' hb hn hw
    · exact lead_old h T to x hT hl' hb hn

theorem lead_calls (h : Fd c A c1 A2 c2 p q gH f hs vW ws w) (T to : Nat) (x : Int) (hT : p.to = (T : Int)) (hl : T ≤ c.is.length) (hw : ws.length ≤ 1000000) :
    Calls Tryz.prog 57 #[.pointer (some ⟨f, 0, none⟩), .int .i64 (to : Int), .int .i64 x] w (LeadP c A c1 A2 c2 p q gH f (leadM T hs ws (to, x)) w) :=
  (lead_callsQ h T to x hT hl hw).mono fun _ _ hv => LeadQ.less hv

end

end Go.Proofs.YthkpnbekkoompabGreatDoor

namespace Go.Proofs.YthkpnbekkoompabGreatDoor
open Go.RowKit

theorem takesM_in {c : CoM} {p : PrM} {x : InM} (hx : inOk p c.ps.length x) (hp : ∀ y ∈ c.ps, prOk y) : 0 ≤ takesM c x ∧ takesM c x ≤ 64 := by
  unfold takesM
  by_cases h26 : x.op = 26
  · rw [if_pos h26]
    obtain ⟨k, hk, hkl⟩ := inOk_call hx h26
    have e : (k : Int).toNat = k := by omega
    rw [hk, e, List.getD_eq_getElem?_getD, List.getElem?_eq_getElem hkl]
    obtain ⟨h1, h2, h3, _⟩ := hp _ (List.getElem_mem hkl)
    show 0 ≤ (c.ps[k]).par ∧ (c.ps[k]).par ≤ 64
    omega
  · rw [if_neg h26]
    by_cases h27 : x.op = 27
    · rw [if_pos h27]
      have ha := hx.2.1
      unfold argOk at ha
      rw [if_neg (by omega), if_neg (by omega), if_neg (by omega), if_neg (by omega), if_neg (by omega), if_pos h27] at ha
      have := ansM_nn p
      omega
    · rw [if_neg h27]
      have := tkL_nn x.op.toNat
      omega
theorem inOk_place {p : PrM} {np : Nat} {x : InM} {F : Nat} (h : inOk p np x) (hF : p.frm = (F : Int)) (e : 22 ≤ x.op ∧ x.op ≤ 25) : ∃ k : Nat, x.arg = (k : Int) := by
  have ha := h.2.1
  unfold argOk at ha
  rw [if_neg (by omega), if_neg (by omega), if_neg (by omega), if_pos e] at ha
  exact ⟨x.arg.toNat, by omega⟩

section
variable {c : CoM} {A A2 : Option Addr} {c1 c2 : Nat} {p : PrM} {q gH f : Nat} {hs : List Int} {vW : Value} {ws : List Nat} {w : World}
theorem LeadP.from {c : CoM} {A A2 : Option Addr} {c1 c2 : Nat} {p : PrM} {q gH f : Nat} {R : Bool × List Int × List Nat} {w W w' : World} {e : Ending} (h : LeadP c A c1 A2 c2 p q gH f R W e w') (hb : Below w.heap.size w W) (hf : f < w.heap.size) : LeadP c A c1 A2 c2 p q gH f R w e w' :=
  ⟨h.1, h.2.imp fun _ hv => ⟨hv.1, (FK.of hb (by omega)).trans hv.2⟩⟩
theorem leadsM_one (T : Nat) (q : Nat × Int) (hs : List Int) (ws : List Nat) : leadsM T [q] hs ws = leadM T hs ws q := by
  simp only [leadsM]
  by_cases h : (leadM T hs ws q).1 = true
  · rw [if_pos h]; exact Prod.ext h.symm rfl
  · rw [if_neg h]
theorem leadsM_yes (T : Nat) (q y : Nat × Int) (hs : List Int) (ws : List Nat) (h : (leadM T hs ws q).1 = true) : leadsM T [q, y] hs ws = leadM T (leadM T hs ws q).2.1 (leadM T hs ws q).2.2 y := by
  rw [← leadsM_one T y]
  conv => lhs; rw [leadsM]
  rw [if_pos h]
theorem leadsM_no (T : Nat) (q y : Nat × Int) (hs : List Int) (ws : List Nat) (h : ¬ (leadM T hs ws q).1 = true) : leadsM T [q, y] hs ws = leadM T hs ws q := by
  conv => lhs; rw [leadsM]
  rw [if_neg h]
theorem leadM_len (T : Nat) (hs : List Int) (ws : List Nat) (q : Nat × Int) : (leadM T hs ws q).2.2.length ≤ ws.length + 1 := by
  unfold leadM
  split
  · simp
  · split <;> simp
theorem leadM_keep (T : Nat) (hs : List Int) (ws : List Nat) (q : Nat × Int) (a : Nat) (h0 : 0 ≤ hAt hs a) : hAt (leadM T hs ws q).2.1 a = hAt hs a := by
  unfold leadM
  split
  · rfl
  · split
    · rename_i hn
      dsimp only
      have hl : q.1 ≠ a := fun e => by rw [e] at hn; omega
      unfold hAt
      rw [List.getD_eq_getElem?_getD, List.getD_eq_getElem?_getD, List.getElem?_set]
      simp [hl]
    · rfl
theorem fromM_of {c : CoM} {T : Nat} {hs : List Int} {ws : List Nat} {a : Nat} (h : ¬ hAt hs a < takesM c (insAt c a)) : fromM c T hs ws a = leadsM T (nexts c a (insAt c a) (hAt hs a)) hs ws := by unfold fromM; rw [if_neg h]
end
end Go.Proofs.YthkpnbekkoompabGreatDoor
