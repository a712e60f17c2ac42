/-
  The statements' own copy of code, as the document has it.
  rewindref10: where an instruction may lead.
-/
import Derived.Test.YthkpnbekkoompabGreatDoorQ06
import Derived.Test.YthkpnbekkoompabGreatDoorCrAQ
import Derived.Deep.AppendLies
import Derived.Test.YthkpnbekkoompabGreatDoorCrBQ
import Derived.Deep.RegionHeld3
import Derived.IntWalk
import Derived.Deep.Cut
import Derived.Deep.CutBlock
import Derived.Deep.CutRange
import Derived.Test.YthkpnbekkoompabGreatDoorQ03
namespace Go.Proofs.YthkpnbekkoompabGreatDoor
open Go.RowKit

theorem Tryz.infoRP : (Tryz.prog.info? 51).map (fun i => (i.zero, i.size, i.bytes)) = some (some (.agg #[.string ⟨#[]⟩, .int .i64 0, .int .i64 0, .int .i64 0, .int .i64 0, .int .i64 0]), 6, 56) := by kernel_rfl
theorem Tryz.infoRI : (Tryz.prog.info? 55).map (fun i => (i.zero, i.size, i.bytes)) = some (some (.agg #[.int .i64 0, .int .i64 0, .int .i64 0]), 3, 24) := by kernel_rfl
/-- The document's code, in a block of its own: two rows behind it. -/
structure Cr (bc : Nat) (vP vI : Value) (c : CoM) (w : World) : Prop where
  box : w.heap[bc]? = some (.cells #[vP, vI] 33 (0, 0))
  rowP : w.ownsRow (bc + 1) 51 6 vP c.ps.length (flatP c.ps)
  rowI : w.ownsRow (bc + 1) 55 3 vI c.is.length (flatI c.is)
theorem Cr.keep {bc : Nat} {vP vI : Value} {c : CoM} {w w' : World} (h : Cr bc vP vI c w) (hb : Below w.heap.size w w') : Cr bc vP vI c w' :=
  ⟨(hb.block bc (blkLt h.box)).trans h.box, own_keepC h.rowP fun g hg => hb.block g (h.rowP.lt g hg).2, own_keepC h.rowI fun g hg => hb.block g (h.rowI.lt g hg).2⟩
/-- A row of procedures grows by one. -/
theorem Cr.growP {bc : Nat} {vP vI vP' : Value} {c : CoM} {w W w3 : World} {p : PrM} (h : Cr bc vP vI c w) (hb : Below w.heap.size w W) (hown : w3.ownsRow (bc + 1) 51 6 vP' (c.ps.length + 1) (flatP c.ps ++ prC p)) (hg : W.grownBy w3 vP.ownBlock) :
    Cr bc vP' vI ⟨c.ps ++ [p], c.is⟩ (w3.setCell ⟨bc, 0, none⟩ vP') ∧ Below bc w (w3.setCell ⟨bc, 0, none⟩ vP') := by
  have hl := blkLt h.box
  have hP : ∀ k, k < w.heap.size → vP.ownBlock ≠ some k → w3.heap[k]? = w.heap[k]? := fun k hk hne => (hg.block k (Nat.lt_of_lt_of_le hk hb.size) (fun e => hne e.symm)).trans (hb.block k hk)
  have hbox : w3.heap[bc]? = some (.cells #[vP, vI] 33 (0, 0)) := (hP bc hl (fun e => by have := (own_ltC h.rowP bc e).1; omega)).trans h.box
  refine ⟨⟨?_, ?_, ?_⟩, hg.os.trans hb.os, hg.tape.trans hb.tape, hg.output.trans hb.output, by simp; exact Nat.le_trans hb.size hg.size, fun k hk => ?_⟩
  · rw [setAt w3 bc 0 _ _ _ _ hbox]; rfl
  · rw [List.length_append, List.length_singleton, flatP_snoc]
    exact own_keepC hown fun g hg' => setNe w3 bc 0 _ g (by have := (own_ltC hown g hg').1; omega)
  · exact own_keepC h.rowI fun g hg' => (setNe w3 bc 0 _ g (by have := (own_ltC h.rowI g hg').1; omega)).trans (hP g (own_ltC h.rowI g hg').2 (own_apart (by decide) h.rowI h.rowP g hg'))
  · exact (setNe w3 bc 0 _ k (by omega)).trans (hP k (by omega) (fun e => by have := (own_ltC h.rowP k e).1; omega))
section
variable {bc : Nat} {vP vI : Value} {c : CoM} {w : World}
/-- A row of instructions grows by one. -/
theorem Cr.growI {vI' : Value} {W w3 : World} {x : InM} (h : Cr bc vP vI c w) (hb : Below w.heap.size w W) (hown : w3.ownsRow (bc + 1) 55 3 vI' (c.is.length + 1) (flatI c.is ++ inC x)) (hg : W.grownBy w3 vI.ownBlock) :
    Cr bc vP vI' ⟨c.ps, c.is ++ [x]⟩ (w3.setCell ⟨bc, 1, none⟩ vI') ∧ Below bc w (w3.setCell ⟨bc, 1, none⟩ vI') := by
  have hl := blkLt h.box
  have hP : ∀ k, k < w.heap.size → vI.ownBlock ≠ some k → w3.heap[k]? = w.heap[k]? := fun k hk hne => (hg.block k (Nat.lt_of_lt_of_le hk hb.size) (fun e => hne e.symm)).trans (hb.block k hk)
  have hbox : w3.heap[bc]? = some (.cells #[vP, vI] 33 (0, 0)) := (hP bc hl (fun e => by have := (own_ltC h.rowI bc e).1; omega)).trans h.box
  refine ⟨⟨?_, ?_, ?_⟩, hg.os.trans hb.os, hg.tape.trans hb.tape, hg.output.trans hb.output, by simp; exact Nat.le_trans hb.size hg.size, fun k hk => ?_⟩
  · rw [setAt w3 bc 1 _ _ _ _ hbox]; rfl
  · exact own_keepC h.rowP fun g hg' => (setNe w3 bc 1 _ g (by have := (own_ltC h.rowP g hg').1; omega)).trans (hP g (own_ltC h.rowP g hg').2 (own_apart (by decide) h.rowP h.rowI g hg'))
  · rw [List.length_append, List.length_singleton, flatI_snoc]
    exact own_keepC hown fun g hg' => setNe w3 bc 1 _ g (by have := (own_ltC hown g hg').1; omega)
  · exact (setNe w3 bc 1 _ k (by omega)).trans (hP k (by omega) (fun e => by have := (own_ltC h.rowI k e).1; omega))
end
theorem Cr.co {bc : Nat} {A A2 : Option Addr} {c1 c2 : Nat} {c : CoM} {w : World} (h : Cr bc (.slice A c.ps.length c1) (.slice A2 c.is.length c2) c w) (hf : CFit c) : CoAt w w.heap.size A c1 A2 c2 c := by
  have k1 := own_cap h.rowP
  have k2 := own_cap h.rowI
  refine ⟨fun hn => ?_, fun hn => ?_, k1.1, k2.1, ⟨k1.2, k2.2⟩, fun p hp => (hf.prs p hp).1, hf.ins⟩
  · obtain ⟨g, cap, hv, hg, _, _, hc⟩ := own_read h.rowP hn
    injection hv with hv
    refine ⟨g, 0, hv, hg, fun i hi => ?_⟩
    obtain ⟨q0, q1, q2, q3, q4, q5⟩ := flatP_get c.ps i hi
    rw [Nat.zero_add]
    exact ⟨hc _ _ q0, hc _ _ q1, hc _ _ q2, hc _ _ q3, hc _ _ q4, hc _ _ q5⟩
  · obtain ⟨g, cap, hv, hg, _, _, hc⟩ := own_read h.rowI hn
    injection hv with hv
    refine ⟨g, 0, hv, hg, fun i hi => ?_⟩
    obtain ⟨q0, q1, q2⟩ := flatI_get c.is i hi
    rw [Nat.zero_add]
    exact ⟨hc _ _ q0, hc _ _ q1, hc _ _ q2⟩


theorem Cr.setLow {bc g o : Nat} {vP vI v : Value} {c : CoM} {w : World} (h : Cr bc vP vI c w) (hg : g < bc) : Cr bc vP vI c (w.setCell ⟨g, o, none⟩ v) :=
  ⟨(setNe w g o v bc (by omega)).trans h.box, own_keepC h.rowP fun k hk => setNe w g o v k (by have := (own_ltC h.rowP k hk).1; omega), own_keepC h.rowI fun k hk => setNe w g o v k (by have := (own_ltC h.rowI k hk).1; omega)⟩
/-- What Ref answers. -/
def RefP (c : CoM) (w : World) (e : Ending) (w' : World) : Prop :=
  Below w.heap.size w w' ∧ ∃ A c1 A2 c2, e = .returned (coV A c1 A2 c2 c) ∧ CoAt w' w'.heap.size A c1 A2 c2 c
theorem Cr.start {bc : Nat} {w : World} (h : w.heap[bc]? = some (.cells #[.slice none 0 0, .slice none 0 0] 33 (0, 0))) : Cr bc (.slice none 0 0) (.slice none 0 0) ⟨[], []⟩ w := ⟨h, World.ownsRow_nil _ _ _ _, World.ownsRow_nil _ _ _ _⟩
theorem alloc3r (w : World) (a b c : Array Value) (s t u : TypeId) : (((w.alloc (.cells a s)).alloc (.cells b t)).alloc (.cells c u)).heap[w.heap.size]? = some (.cells a s (0, 0)) ∧ (((w.alloc (.cells a s)).alloc (.cells b t)).alloc (.cells c u)).heap[w.heap.size + 1]? = some (.cells b t (0, 0)) ∧ (((w.alloc (.cells a s)).alloc (.cells b t)).alloc (.cells c u)).heap[w.heap.size + 1 + 1]? = some (.cells c u (0, 0)) ∧
    Below w.heap.size w (((w.alloc (.cells a s)).alloc (.cells b t)).alloc (.cells c u)) ∧ (((w.alloc (.cells a s)).alloc (.cells b t)).alloc (.cells c u)).heap.size = w.heap.size + 3 := by
  have e1 : (w.alloc (.cells a s)).heap.size = w.heap.size + 1 := by simp
  have e2 : ((w.alloc (.cells a s)).alloc (.cells b t)).heap.size = w.heap.size + 1 + 1 := by simp
  refine ⟨?_, ?_, ?_, ((((Below.refl w.heap.size w).alloc (Nat.le_refl _) _).alloc (by omega) _).alloc (by omega) _), by simp⟩
  · rw [Below.heap_alloc _ _ _ (by omega), Below.heap_alloc _ _ _ (by omega)]
    exact heapOne w a s
  · rw [Below.heap_alloc _ _ _ (by omega)]
    have := heapOne (w.alloc (.cells a s)) b t
    rwa [e1] at this
  · have := heapOne ((w.alloc (.cells a s)).alloc (.cells b t)) c u
    rwa [e2] at this
theorem news_two (W : World) (o : Obj) (a : Array Value) (t : TypeId) (g : Nat) (hg : W.heap.size + 1 = g) : ∀ j u, a.toList[j]? = some u → ((W.alloc o).alloc (.cells a t)).cell? ((⟨g, 0, none⟩ : Addr).add j) = some u := by
  subst hg
  intro j u hu
  have h := heapOne (W.alloc o) a t
  rw [show (W.alloc o).heap.size = W.heap.size + 1 by simp] at h
  rw [Addr.add_lit, Nat.zero_add, cellC h j, ← Array.getElem?_toList]
  exact hu

set_option maxRecDepth 100000 in
set_option maxHeartbeats 8000000 in
theorem ref_calls (c : CoM) (A A2 : Option Addr) (c1 c2 : Nat) (w : World) (hc : CoAt w w.heap.size A c1 A2 c2 c) (hnp : c.ps.length ≤ 100000) (hni : c.is.length ≤ 100000) (hcf : CFit c) :
    Calls Tryz.prog 8 #[coV A c1 A2 c2 c] w (RefP c w) := by
  obtain ⟨iP, hP0, hP1, hP2, hP3⟩ := info_parts Tryz.infoRP
  obtain ⟨iI, hI0, hI1, hI2, hI3⟩ := info_parts Tryz.infoRI
  have hfw := hc.few
  have hcp := hc.capP
  have hci := hc.capI
  unfold maxLen at hfw
  have HC := Lib.hid hc
  have HCF := Lib.hid hcf
  obtain ⟨k0, k1, k2, k3, k4⟩ := alloc3r w #[.slice A c.ps.length c1, .slice A2 c.is.length c2] #[.slice none 0 0, .slice none 0 0] #[.slice none 0 0, .slice none 0 0] 26 33 33
  have HX0 := Lib.hid k0
  have HX1 := Lib.hid k1
  have HX2 := Lib.hid k2
  have HBW := Lib.hid k3
  have HSZ := Lib.hid k4
  clear k0 k1 k2 k3 k4 hc hcf
  unfold coV
  go_enter Tryz.func8, Tryz.ntmps8
  go_wp2
  generalize ((w.alloc (.cells #[.slice A c.ps.length c1, .slice A2 c.is.length c2] 26)).alloc (.cells #[.slice none 0 0, .slice none 0 0] 33)).alloc (.cells #[.slice none 0 0, .slice none 0 0] 33) = W1 at *
  have HOB : Hid (w.heap.size + 1 + 1 < W1.heap.size) := Lib.hid (blkLt HX2.out)
  obtain ⟨ob, hob⟩ : ∃ ob, ob = w.heap.size + 1 + 1 := ⟨_, rfl⟩
  have HOE := Lib.hid hob
  rw [← hob] at HX2 HOB ⊢
  clear hob HSZ
  go_loopw [11] (fun i wr => ∃ (k : Nat) (vP : Value), k ≤ c.ps.length ∧ i = .int .i64 k ∧ Hid (Cr ob vP (.slice none 0 0) ⟨c.ps.take k, []⟩ wr) ∧ Hid (Below ob W1 wr)) (fun i _ => c.ps.length - (intOf i).toNat)
  case atStart => exact ⟨0, .slice none 0 0, by omega, rfl, Lib.hid (Cr.start HX2.out), Lib.hid (Below.refl _ _)⟩
  case round =>
    obtain ⟨k, vP, hk, rfl, HR, HB⟩ := hrel
    have hrow := HR.out.rowP
    have hkl : (c.ps.take k).length = k := by rw [List.length_take]; omega
    rw [hkl] at hrow
    obtain ⟨AP, cP, rfl⟩ := own_sliceC hrow
    have HROW := Lib.hid hrow
    clear hrow
    have hoe := HOE.out
    have hobl := blkLt HR.out.box
    have x0 : wr.cell? ⟨w.heap.size, 0, none⟩ = some (.slice A c.ps.length c1) := keepC HB.out (cellC HX0.out 0) (by omega)
    have x1 : wr.cell? ⟨w.heap.size, 1, none⟩ = some (.slice A2 c.is.length c2) := keepC HB.out (cellC HX0.out 1) (by omega)
    have o0 : wr.cell? ⟨ob, 0, none⟩ = some (.slice AP k cP) := cellC HR.out.box 0
    have o0n := fun o => newC o0 o
    have HBW1 := Lib.hid (HBW.out.trans (HB.out.mono (by omega)))
    clear hoe
    by_cases hlt : k < c.ps.length
    · obtain ⟨b, off, rfl, hb, hcells⟩ := (HC.out.prs) (by omega)
      obtain ⟨q0, q1, q2, q3, q4, q5⟩ := hcells k hlt
      have kk : ∀ {o : Nat} {u : Value}, w.cell? ⟨b, o, none⟩ = some u → wr.cell? ⟨b, o, none⟩ = some u := fun hq => keepC HBW1.out hq hb
      have q0 := kk q0
      have q1 := kk q1
      have q2 := kk q2
      have q3 := kk q3
      have q4 := kk q4
      have q5 := kk q5
      have HTK := Lib.hid (List.take_succ_eq_append_getElem hlt)
      generalize c.ps[k] = p at *
      have hk0 : (0 : Int) ≤ (k : Int) := by omega
      have hk1 : (k : Int) < (c.ps.length : Int) := by omega
      have HA2 := Lib.hid (below2C wr (.cells #[.string (bs p.name), .int .i64 p.frm, .int .i64 p.to, .int .i64 p.par, .int .i64 p.slo, .int .i64 p.typ] 56) (.cells #[.string (bs p.name), .int .i64 p.frm, .int .i64 p.to, .int .i64 p.par, .int .i64 p.slo, .int .i64 p.typ] 51))
      have HV := Lib.hid (own_keepC HROW.out fun g hg => HA2.out.block g (own_ltC HROW.out g hg).2)
      have HOB3 : Hid (∀ w3, ((wr.alloc (.cells #[.string (bs p.name), .int .i64 p.frm, .int .i64 p.to, .int .i64 p.par, .int .i64 p.slo, .int .i64 p.typ] 56)).alloc (.cells #[.string (bs p.name), .int .i64 p.frm, .int .i64 p.to, .int .i64 p.par, .int .i64 p.slo, .int .i64 p.typ] 51)).grownBy w3 (Value.slice AP k cP).ownBlock → w3.frozen? ⟨ob, 0, none⟩ = false ∧ w3.cell? ⟨ob, 0, none⟩ = some (.slice AP k cP)) := Lib.hid fun w3 hg => by
        have h1 := (hg.block ob (by simp; omega) (fun e => by have := (own_ltC HROW.out ob e.symm).1; omega)).trans ((HA2.out.block ob hobl).trans HR.out.box)
        exact ⟨by simp [World.frozen?, h1], cellC h1 0⟩
      clear kk hcells hkl
      go_wp2_with (at_builtin; refine wpList_append_own _ rfl _ _ 30 rfl (ob + 1) 51 iP (.agg #[.string ⟨#[]⟩, .int .i64 0, .int .i64 0, .int .i64 0, .int .i64 0, .int .i64 0]) 6 56 Tryz.underlying30 hP0 hP1 hP2 hP3 rfl (by decide) (.slice AP k cP) k (flatP (c.ps.take k)) rfl HV.out ⟨wr.heap.size + 1, 0, none⟩ 1 1 (prC p) (by rfl) rfl (news_two wr _ #[.string (bs p.name), .int .i64 p.frm, .int .i64 p.to, .int .i64 p.par, .int .i64 p.slo, .int .i64 p.typ] _ _ rfl) (onePr p) (by unfold maxLen; omega) (by omega) (by simp; omega) ?_; intro v' w3 hown3 hgrow hnil; clear hnil; obtain ⟨Av, cv, rfl⟩ := own_sliceC hown3; have HG := Lib.hid hgrow; have H3 := Lib.hid hown3; obtain ⟨f3, d3⟩ := HOB3.out _ hgrow; clear hgrow hown3)
      have HN := Lib.hid (HR.out.growP (p := p) (vP' := .slice Av (k + 1) cv) HA2.out (by rw [List.length_take, Nat.min_eq_left (by omega)]; exact H3.out) HG.out)
      go_roundw
      case rel => exact ⟨k + 1, .slice Av (k + 1) cv, by omega, by go_num, Lib.hid (by rw [HTK.out]; exact HN.out.1), Lib.hid (HB.out.trans HN.out.2)⟩
      case measure => simp [intOf]; omega
    · obtain rfl : k = c.ps.length := by omega
      rw [List.take_length] at HR HROW
      clear hlt hk hkl
      go_wp2_with fail
      go_loopw [25] (fun i wq => ∃ (k : Nat) (vI : Value), k ≤ c.is.length ∧ i = .int .i64 k ∧ Hid (Cr ob (.slice AP c.ps.length cP) vI ⟨c.ps, c.is.take k⟩ wq) ∧ Hid (Below ob W1 wq)) (fun i _ => c.is.length - (intOf i).toNat)
      case atStart => exact ⟨0, .slice none 0 0, by omega, rfl, HR, HB⟩
      case round =>
        clear x0 x1 o0 o0n HBW1 hobl HROW HR HB
        obtain ⟨k, vI, hk, rfl, HR, HB⟩ := hrel
        have hrow := HR.out.rowI
        have hkl : (c.is.take k).length = k := by rw [List.length_take]; omega
        rw [hkl] at hrow
        obtain ⟨AI, cI, rfl⟩ := own_sliceC hrow
        have HROW := Lib.hid hrow
        clear hrow
        have hoe := HOE.out
        have hobl := blkLt HR.out.box
        have x0 : wr.cell? ⟨w.heap.size, 0, none⟩ = some (.slice A c.ps.length c1) := keepC HB.out (cellC HX0.out 0) (by omega)
        have x1 : wr.cell? ⟨w.heap.size, 1, none⟩ = some (.slice A2 c.is.length c2) := keepC HB.out (cellC HX0.out 1) (by omega)
        have o0 : wr.cell? ⟨ob, 0, none⟩ = some (.slice AP c.ps.length cP) := cellC HR.out.box 0
        have o1 : wr.cell? ⟨ob, 1, none⟩ = some (.slice AI k cI) := cellC HR.out.box 1
        have o1n := fun o => newC o1 o
        have HBW1 := Lib.hid (HBW.out.trans (HB.out.mono (by omega)))
        have HRB := Lib.hid ((HB.out.block (w.heap.size + 1) (by omega)).trans HX1.out)
        have hrb : w.heap.size + 1 < ob := by omega
        clear hoe
        by_cases hlt : k < c.is.length
        · obtain ⟨b, off, rfl, hb, hcells⟩ := (HC.out.ins) (by omega)
          obtain ⟨q0, q1, q2⟩ := hcells k hlt
          have kk : ∀ {o : Nat} {u : Value}, w.cell? ⟨b, o, none⟩ = some u → wr.cell? ⟨b, o, none⟩ = some u := fun hq => keepC HBW1.out hq hb
          have q0 := kk q0
          have q1 := kk q1
          have q2 := kk q2
          have HTK := Lib.hid (List.take_succ_eq_append_getElem hlt)
          generalize c.is[k] = x at *
          have hk0 : (0 : Int) ≤ (k : Int) := by omega
          have hk1 : (k : Int) < (c.is.length : Int) := by omega
          have HA2 := Lib.hid (below2C wr (.cells #[.int .i64 x.op, .int .i64 x.arg, .int .i64 x.mor] 42) (.cells #[.int .i64 x.op, .int .i64 x.arg, .int .i64 x.mor] 55))
          have HV := Lib.hid (own_keepC HROW.out fun g hg => HA2.out.block g (own_ltC HROW.out g hg).2)
          have HOB3 : Hid (∀ w3, ((wr.alloc (.cells #[.int .i64 x.op, .int .i64 x.arg, .int .i64 x.mor] 42)).alloc (.cells #[.int .i64 x.op, .int .i64 x.arg, .int .i64 x.mor] 55)).grownBy w3 (Value.slice AI k cI).ownBlock → w3.frozen? ⟨ob, 1, none⟩ = false ∧ w3.cell? ⟨ob, 1, none⟩ = some (.slice AI k cI)) := Lib.hid fun w3 hg => by
            have h1 := (hg.block ob (by simp; omega) (fun e => by have := (own_ltC HROW.out ob e.symm).1; omega)).trans ((HA2.out.block ob hobl).trans HR.out.box)
            exact ⟨by simp [World.frozen?, h1], cellC h1 1⟩
          clear kk hcells hkl o0 HRB
          go_wp2_with (at_builtin; refine wpList_append_own _ rfl _ _ 31 rfl (ob + 1) 55 iI (.agg #[.int .i64 0, .int .i64 0, .int .i64 0]) 3 24 Tryz.underlying31 hI0 hI1 hI2 hI3 rfl (by decide) (.slice AI k cI) k (flatI (c.is.take k)) rfl HV.out ⟨wr.heap.size + 1, 0, none⟩ 1 1 (inC x) (by rfl) rfl (news_two wr _ #[.int .i64 x.op, .int .i64 x.arg, .int .i64 x.mor] _ _ rfl) (oneIn x) (by unfold maxLen; omega) (by omega) (by simp; omega) ?_; intro v' w3 hown3 hgrow hnil; clear hnil; obtain ⟨Av, cv, rfl⟩ := own_sliceC hown3; have HG := Lib.hid hgrow; have H3 := Lib.hid hown3; obtain ⟨f3, d3⟩ := HOB3.out _ hgrow; clear hgrow hown3)
          have HN := Lib.hid (HR.out.growI (x := x) (vI' := .slice Av (k + 1) cv) HA2.out (by rw [List.length_take, Nat.min_eq_left (by omega)]; exact H3.out) HG.out)
          go_roundw
          case rel => exact ⟨k + 1, .slice Av (k + 1) cv, by omega, by go_num, Lib.hid (by rw [HTK.out]; exact HN.out.1), Lib.hid (HB.out.trans HN.out.2)⟩
          case measure => simp [intOf]; omega
        · obtain rfl : k = c.is.length := by omega
          rw [List.take_length] at HR
          have HCO := Lib.hid (HR.out.co HCF.out)
          have r0 : wr.cell? ⟨w.heap.size + 1, 0, none⟩ = some (.slice none 0 0) := cellC HRB.out 0
          have r1 : wr.cell? ⟨w.heap.size + 1, 1, none⟩ = some (.slice none 0 0) := cellC HRB.out 1
          have fr : ∀ o, wr.frozen? ⟨w.heap.size + 1, o, none⟩ = false := fun o => by simp [World.frozen?, HRB.out]
          have hrbl := blkLt HRB.out
          clear hlt hk hkl x0 x1 o1n HROW
          go_wp2
          have HS := Lib.hid ((HR.out.setLow (g := w.heap.size + 1) (o := 0) (v := .slice AP c.ps.length cP) hrb).setLow (g := w.heap.size + 1) (o := 1) (v := .slice AI c.is.length cI) hrb)
          have HBZ := Lib.hid (((HBW1.out.setCell (p := ⟨w.heap.size + 1, 0, none⟩) (by simp) (.slice AP c.ps.length cP))).setCell (p := ⟨w.heap.size + 1, 1, none⟩) (by simp) (.slice AI c.is.length cI))
          have HH := Lib.hid (setAt _ (w.heap.size + 1) 1 (.slice AI c.is.length cI) _ _ _ (setAt wr (w.heap.size + 1) 0 (.slice AP c.ps.length cP) _ _ _ HRB.out))
          have s0 := cellC HH.out 0
          have s1 := cellC HH.out 1
          generalize (wr.setCell ⟨w.heap.size + 1, 0, none⟩ (.slice AP c.ps.length cP)).setCell ⟨w.heap.size + 1, 1, none⟩ (.slice AI c.is.length cI) = W5 at *
          have s0 : W5.cell? ⟨w.heap.size + 1, 0, none⟩ = some (.slice AP c.ps.length cP) := s0
          have s1 : W5.cell? ⟨w.heap.size + 1, 1, none⟩ = some (.slice AI c.is.length cI) := s1
          exact bodyPost_ret (v := .agg #[.slice AP c.ps.length cP, .slice AI c.is.length cI]) (by simp [results, Tryz.results8, go_sem, s0, s1]) rfl ⟨HBZ.out, AP, cP, AI, cI, rfl, HS.out.co HCF.out⟩
/-- What the document's Heights answers. -/
def RHgP (c : CoM) (w : World) (e : Ending) (w' : World) : Prop :=
  Below w.heap.size w w' ∧ ((GoodC c ∧ ∃ hs g, HtsC c hs ∧ e = .returned (.tuple #[.slice (some ⟨g, 0, none⟩) hs.length hs.length, .bool true]) ∧ w'.heap[g]? = some (.cells (intsL hs).toArray 3 (0, 0))) ∨
   (¬ GoodC c ∧ e = .returned (.tuple #[.slice none 0 0, .bool false])))
end Go.Proofs.YthkpnbekkoompabGreatDoor

namespace Go.Proofs.YthkpnbekkoompabGreatDoor
open Go.RowKit

/-- Ways on, in memory. -/
def WaysAt (w : World) (A : Option Addr) (l : List (Nat × Int)) : Prop :=
  0 < l.length → ∃ g, A = some ⟨g, 0, none⟩ ∧ g < w.heap.size ∧ ∀ j (h : j < l.length), w.cell? ⟨g, j * 2, none⟩ = some (.int .i64 (l[j].1 : Int)) ∧ w.cell? ⟨g, j * 2 + 1, none⟩ = some (.int .i64 l[j].2)
def AftP (l : List (Nat × Int)) (w : World) (e : Ending) (w' : World) : Prop :=
  Below w.heap.size w w' ∧ ∃ A cap, e = .returned (.slice A l.length cap) ∧ WaysAt w' A l ∧ ∀ g, A = some ⟨g, 0, none⟩ → w.heap.size ≤ g
theorem aft_nil {l : List (Nat × Int)} {w w' : World} (hl : l = []) (hb : Below w.heap.size w w') : AftP l w (.returned (.slice none 0 0)) w' := by
  subst hl; exact ⟨hb, none, 0, rfl, fun h => by simp at h, fun g h => by cases h⟩
theorem aft_one {l : List (Nat × Int)} {w wx : World} {a : Nat} {b : Int} {t : TypeId} (hl : l = [(a, b)]) (hb : Below w.heap.size w wx) : AftP l w (.returned (.slice (some ⟨wx.heap.size, 0, none⟩) 1 1)) (wx.alloc (.cells #[.int .i64 (a : Int), .int .i64 b] t)) := by
  subst hl
  refine ⟨hb.alloc hb.size _, _, _, rfl, fun _ => ⟨_, rfl, by simp, fun j hj => ?_⟩, fun g hg => by injection hg with hg; injection hg with hg; rw [← hg]; exact hb.size⟩
  obtain rfl : j = 0 := by simpa using hj
  exact ⟨cellC (heapOne wx _ _) 0, cellC (heapOne wx _ _) 1⟩
theorem aft_two {l : List (Nat × Int)} {w wx : World} {a a2 : Nat} {b b2 : Int} {t : TypeId} (hl : l = [(a, b), (a2, b2)]) (hb : Below w.heap.size w wx) : AftP l w (.returned (.slice (some ⟨wx.heap.size, 0, none⟩) 2 2)) (wx.alloc (.cells #[.int .i64 (a : Int), .int .i64 b, .int .i64 (a2 : Int), .int .i64 b2] t)) := by
  subst hl
  refine ⟨hb.alloc hb.size _, _, _, rfl, fun _ => ⟨_, rfl, by simp, fun j hj => ?_⟩, fun g hg => by injection hg with hg; injection hg with hg; rw [← hg]; exact hb.size⟩
  have : j = 0 ∨ j = 1 := by simp at hj; omega
  rcases this with rfl | rfl
  · exact ⟨cellC (heapOne wx _ _) 0, cellC (heapOne wx _ _) 1⟩
  · exact ⟨cellC (heapOne wx _ _) 2, cellC (heapOne wx _ _) 3⟩
theorem jump_nn {p : PrM} {np : Nat} {x : InM} (h : inOk p np x) (hf : 0 ≤ p.frm) (ho : 22 ≤ x.op ∧ x.op ≤ 25) : 0 ≤ x.arg := by
  have ha := h.2.1
  unfold argOk at ha
  rw [if_neg (by omega), if_neg (by omega), if_neg (by omega), if_pos ho] at ha
  omega

theorem below_undrew {W w' : World} (h : Below W.drew.heap.size W.drew w') : Below W.heap.size W w' := ⟨h.os, h.tape, h.output, h.size, h.block⟩
set_option maxRecDepth 100000 in
set_option maxHeartbeats 8000000 in
theorem refAfter_calls (c : CoM) (A A2 : Option Addr) (c1 c2 : Nat) (p : PrM) (i : Nat) (h : Int) (w : World) (hc : CoAt w w.heap.size A c1 A2 c2 c) (hi : i < c.is.length) (hx : inOk p c.ps.length c.is[i]) (hf : 0 ≤ p.frm)
    (ht : 0 ≤ takesM c c.is[i] ∧ takesM c c.is[i] ≤ 100000) (h0 : 0 ≤ h ∧ h ≤ 100000) :
    Calls Tryz.prog 32 #[coV A c1 A2 c2 c, .int .i64 (i : Int), .int .i64 h] w (AftP (nexts c i c.is[i] h) w) := by
  have hfw := hc.few
  have hci := hc.capI
  unfold maxLen at hfw
  obtain ⟨b, off, rfl, hb, hcells⟩ := hc.ins (by omega)
  obtain ⟨q0, q1, q2⟩ := hcells i hi
  have HTK := Lib.hid (fun W (hW : Below w.heap.size w W) => refTakes_calls c A (some ⟨b, off, none⟩) c1 c2 p c.is[i] W ((hc.below hW (Nat.le_refl _)).wide hW.size).prs hx)
  have HLV := Lib.hid (fun W (hW : Below w.heap.size w W) => refLeaves_calls c A (some ⟨b, off, none⟩) c1 c2 p c.is[i] W ((hc.below hW (Nat.le_refl _)).wide hW.size).prs hx)
  have HJN := Lib.hid (jump_nn hx hf)
  have hlv := leavesM_nn c c.is[i]
  have HNX := Lib.hid (show nexts c i c.is[i] h = (if (c.is[i]).op = 27 then [] else if (c.is[i]).op = 22 then [((c.is[i]).arg.toNat, h - takesM c c.is[i] + leavesM c c.is[i])]
    else if (c.is[i]).op = 23 then [((c.is[i]).arg.toNat, h - takesM c c.is[i] + leavesM c c.is[i]), (i + 1, h - takesM c c.is[i] + leavesM c c.is[i])]
    else if (c.is[i]).op = 24 ∨ (c.is[i]).op = 25 then [((c.is[i]).arg.toNat, h), (i + 1, h - takesM c c.is[i] + leavesM c c.is[i])] else [(i + 1, h - takesM c c.is[i] + leavesM c c.is[i])]) from rfl)
  generalize nexts c i c.is[i] h = l at *
  generalize takesM c c.is[i] = tk at *
  generalize leavesM c c.is[i] = lv at *
  unfold coV inV at HTK HLV
  unfold coV
  generalize c.is[i] = x at *
  obtain ⟨op, arg, mor⟩ := x
  dsimp only at HNX HJN q0 q1 q2 HTK HLV
  generalize c.ps.length = np at *
  clear hcells hc hx hf
  generalize c.is.length = nI at *
  have HB2 := Lib.hid (below2C w (.cells #[.slice A np c1, .slice (some ⟨b, off, none⟩) nI c2] 33) (.cells #[.int .i64 op, .int .i64 arg, .int .i64 mor] 55))
  have HX2 := Lib.hid (heapOne (w.alloc (.cells #[.slice A np c1, .slice (some ⟨b, off, none⟩) nI c2] 33)) #[.int .i64 op, .int .i64 arg, .int .i64 mor] 55)
  have HX1 := Lib.hid ((Below.heap_alloc (w.alloc (.cells #[.slice A np c1, .slice (some ⟨b, off, none⟩) nI c2] 33)) (.cells #[.int .i64 op, .int .i64 arg, .int .i64 mor] 55) w.heap.size (by simp)).trans (heapOne w #[.slice A np c1, .slice (some ⟨b, off, none⟩) nI c2] 33))
  rw [show (w.alloc (.cells #[.slice A np c1, .slice (some ⟨b, off, none⟩) nI c2] 33)).heap.size = w.heap.size + 1 by simp] at HX2
  have hi0 : (0 : Int) ≤ (i : Int) := by omega
  have hi1 : (i : Int) < (nI : Int) := by omega
  have q0 := fun o => newC q0 o
  have q1 := fun o => newC q1 o
  have q2 := fun o => newC q2 o
  go_enter Tryz.func32, Tryz.ntmps32
  go_upto_region 2 with (fail)
  generalize (w.alloc (.cells #[.slice A np c1, .slice (some ⟨b, off, none⟩) nI c2] 33)).alloc (.cells #[.int .i64 op, .int .i64 arg, .int .i64 mor] 55) = W1 at *
  have hn1 : w.heap.size + 1 < W1.heap.size := blkLt HX2.out
  go_cut [8] from 14 to 23 (fun s wx => s = .int .i64 (h - tk + lv) ∧ Hid (Below W1.heap.size W1 wx))
  case first =>
    have HD : Hid (Below w.heap.size w W1.drew) := Lib.hid (below_drewC HB2.out 1)
    have y0 : W1.drew.cell? ⟨w.heap.size, 0, none⟩ = some (.slice A np c1) := cellC HX1.out 0
    have y1 : W1.drew.cell? ⟨w.heap.size, 1, none⟩ = some (.slice (some ⟨b, off, none⟩) nI c2) := cellC HX1.out 1
    have z0 : W1.drew.cell? ⟨w.heap.size + 1, 0, none⟩ = some (.int .i64 op) := cellC HX2.out 0
    have z1 : W1.drew.cell? ⟨w.heap.size + 1, 1, none⟩ = some (.int .i64 arg) := cellC HX2.out 1
    have z2 : W1.drew.cell? ⟨w.heap.size + 1, 2, none⟩ = some (.int .i64 mor) := cellC HX2.out 2
    go_region_held3 (fun w' => w'.cell? ⟨w.heap.size, 0, none⟩ = some (.slice A np c1) ∧ w'.cell? ⟨w.heap.size, 1, none⟩ = some (.slice (some ⟨b, off, none⟩) nI c2) ∧ w'.cell? ⟨w.heap.size + 1, 0, none⟩ = some (.int .i64 op) ∧ w'.cell? ⟨w.heap.size + 1, 1, none⟩ = some (.int .i64 arg) ∧ w'.cell? ⟨w.heap.size + 1, 2, none⟩ = some (.int .i64 mor))
      (with_reducible exact ⟨y0, y1, z0, z1, z2⟩)
      (first | (go_at_call 31; ((with_reducible refine (HTK.out _ HC2.out).mono ?_); rintro e w3 ⟨rfl, hb⟩; have HZ := Lib.hid (HCk.out.trans (hb.mono HCk.out.size)); have k1 := (HZ.out.block _ (blkLt HX1.out)).trans HX1.out; have k2 := (HZ.out.block _ (blkLt HX2.out)).trans HX2.out; have y0 : w3.cell? ⟨w.heap.size, 0, none⟩ = some (.slice A np c1) := cellC k1 0; have y1 : w3.cell? ⟨w.heap.size, 1, none⟩ = some (.slice (some ⟨b, off, none⟩) nI c2) := cellC k1 1; have z0 : w3.cell? ⟨w.heap.size + 1, 0, none⟩ = some (.int .i64 op) := cellC k2 0; have z1 : w3.cell? ⟨w.heap.size + 1, 1, none⟩ = some (.int .i64 arg) := cellC k2 1; have z2 : w3.cell? ⟨w.heap.size + 1, 2, none⟩ = some (.int .i64 mor) := cellC k2 2; clear k1 k2 hb)) | (go_at_call 50; ((with_reducible refine (HLV.out _ HW2.out).mono ?_); rintro e w3 ⟨rfl, hb⟩; have HZ := Lib.hid (HWk.out.trans (hb.mono HWk.out.size)); have k1 := (HZ.out.block _ (blkLt HX1.out)).trans HX1.out; have k2 := (HZ.out.block _ (blkLt HX2.out)).trans HX2.out; have y0 : w3.cell? ⟨w.heap.size, 0, none⟩ = some (.slice A np c1) := cellC k1 0; have y1 : w3.cell? ⟨w.heap.size, 1, none⟩ = some (.slice (some ⟨b, off, none⟩) nI c2) := cellC k1 1; have z0 : w3.cell? ⟨w.heap.size + 1, 0, none⟩ = some (.int .i64 op) := cellC k2 0; have z1 : w3.cell? ⟨w.heap.size + 1, 1, none⟩ = some (.int .i64 arg) := cellC k2 1; have z2 : w3.cell? ⟨w.heap.size + 1, 2, none⟩ = some (.int .i64 mor) := cellC k2 2; clear k1 k2 hb)) | (go_at_call 31; ((with_reducible refine (HTK.out _ HD.out).mono ?_); rintro e w2 ⟨rfl, hb⟩; have HWk := Lib.hid (below_undrew hb); have HW2 := Lib.hid (HB2.out.trans (HWk.out.mono (by have := HB2.out.size; omega))); have k1 := (HWk.out.block _ (blkLt HX1.out)).trans HX1.out; have k2 := (HWk.out.block _ (blkLt HX2.out)).trans HX2.out; have y0 : w2.cell? ⟨w.heap.size, 0, none⟩ = some (.slice A np c1) := cellC k1 0; have y1 : w2.cell? ⟨w.heap.size, 1, none⟩ = some (.slice (some ⟨b, off, none⟩) nI c2) := cellC k1 1; have z0 : w2.cell? ⟨w.heap.size + 1, 0, none⟩ = some (.int .i64 op) := cellC k2 0; have z1 : w2.cell? ⟨w.heap.size + 1, 1, none⟩ = some (.int .i64 arg) := cellC k2 1; have z2 : w2.cell? ⟨w.heap.size + 1, 2, none⟩ = some (.int .i64 mor) := cellC k2 2; clear k1 k2 hb)) | (go_at_call 50; ((with_reducible refine (HLV.out _ HD.out).mono ?_); rintro e v2 ⟨rfl, hb⟩; have HCk := Lib.hid (below_undrew hb); have HC2 := Lib.hid (HB2.out.trans (HCk.out.mono (by have := HB2.out.size; omega))); have k1 := (HCk.out.block _ (blkLt HX1.out)).trans HX1.out; have k2 := (HCk.out.block _ (blkLt HX2.out)).trans HX2.out; have y0 : v2.cell? ⟨w.heap.size, 0, none⟩ = some (.slice A np c1) := cellC k1 0; have y1 : v2.cell? ⟨w.heap.size, 1, none⟩ = some (.slice (some ⟨b, off, none⟩) nI c2) := cellC k1 1; have z0 : v2.cell? ⟨w.heap.size + 1, 0, none⟩ = some (.int .i64 op) := cellC k2 0; have z1 : v2.cell? ⟨w.heap.size + 1, 1, none⟩ = some (.int .i64 arg) := cellC k2 1; have z2 : v2.cell? ⟨w.heap.size + 1, 2, none⟩ = some (.int .i64 mor) := cellC k2 2; clear k1 k2 hb)))
    all_goals
      go_wp2
      go_meet
      case rel => exact ⟨by rw [IntWalk.i64_in (h - tk) (by omega), IntWalk.i64_in (h - tk + lv) (by omega)], HZ⟩
  case rest =>
    obtain ⟨rfl, HZ⟩ := hcut
    have hcut0 := HZ.out.size
    have k1 := Lib.hid ((HZ.out.block _ (blkLt HX1.out)).trans HX1.out)
    have k2 := Lib.hid ((HZ.out.block _ (blkLt HX2.out)).trans HX2.out)
    have z0 : wc.cell? ⟨w.heap.size + 1, 0, none⟩ = some (.int .i64 op) := cellC k2.out 0
    have z1 : wc.cell? ⟨w.heap.size + 1, 1, none⟩ = some (.int .i64 arg) := cellC k2.out 1
    have HB3 := Lib.hid (HB2.out.trans (HZ.out.mono (by omega)))
    generalize h - tk + lv = bv at *
    have hiw : IntKind.i64.wrap ((i : Int) + 1) = ((i + 1 : Nat) : Int) := by rw [IntWalk.i64_in _ (by omega)]; omega
    clear hcut0 q0 q1 q2 HTK HLV HX1 HX2 k1 k2 HZ HB2
    by_cases h22 : op = 22
    · obtain ⟨a, rfl⟩ : ∃ a : Nat, arg = (a : Int) := ⟨arg.toNat, by have := HJN.out ⟨by omega, by omega⟩; omega⟩
      subst h22
      have HL : Hid (l = [(a, bv)]) := Lib.hid (by rw [HNX.out]; simp)
      clear HNX HJN
      go_wp2
      go_ret
      exact aft_one HL.out HB3.out
    by_cases h23 : op = 23
    · obtain ⟨a, rfl⟩ : ∃ a : Nat, arg = (a : Int) := ⟨arg.toNat, by have := HJN.out ⟨by omega, by omega⟩; omega⟩
      subst h23
      have HL : Hid (l = [(a, bv), (i + 1, bv)]) := Lib.hid (by rw [HNX.out]; simp)
      clear HNX HJN h22
      go_wp2
      go_ret
      exact aft_two HL.out HB3.out
    by_cases h24 : op = 24
    · obtain ⟨a, rfl⟩ : ∃ a : Nat, arg = (a : Int) := ⟨arg.toNat, by have := HJN.out ⟨by omega, by omega⟩; omega⟩
      subst h24
      have HL : Hid (l = [(a, h), (i + 1, bv)]) := Lib.hid (by rw [HNX.out]; simp)
      clear HNX HJN h22 h23
      go_wp2
      go_ret
      exact aft_two HL.out HB3.out
    by_cases h25 : op = 25
    · obtain ⟨a, rfl⟩ : ∃ a : Nat, arg = (a : Int) := ⟨arg.toNat, by have := HJN.out ⟨by omega, by omega⟩; omega⟩
      subst h25
      have HL : Hid (l = [(a, h), (i + 1, bv)]) := Lib.hid (by rw [HNX.out]; simp)
      clear HNX HJN h22 h23 h24
      go_wp2
      go_ret
      exact aft_two HL.out HB3.out
    by_cases h27 : op = 27
    · subst h27
      have HL : Hid (l = []) := Lib.hid (by rw [HNX.out]; simp)
      clear HNX HJN h22 h23 h24 h25
      go_wp2
      go_ret
      exact aft_nil HL.out HB3.out
    · have HL : Hid (l = [(i + 1, bv)]) := Lib.hid (by rw [HNX.out, if_neg h27, if_neg h22, if_neg h23, if_neg (by omega)])
      have e22 : (op == 22) = false := beq_eq_false_iff_ne.2 h22
      have e23 : (op == 23) = false := beq_eq_false_iff_ne.2 h23
      have e24 : (op == 24) = false := beq_eq_false_iff_ne.2 h24
      have e25 : (op == 25) = false := beq_eq_false_iff_ne.2 h25
      have e27 : (op == 27) = false := beq_eq_false_iff_ne.2 h27
      clear HNX HJN h22 h23 h24 h25 h27
      go_wp2
      go_ret
      exact aft_one HL.out HB3.out
end Go.Proofs.YthkpnbekkoompabGreatDoor
