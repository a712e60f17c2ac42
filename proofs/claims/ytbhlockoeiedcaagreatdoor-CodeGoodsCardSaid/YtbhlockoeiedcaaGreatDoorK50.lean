/-
  The statements' own copy of code, as the document has it.
-/
import Derived.Test.YtbhlockoeiedcaaGreatDoorK32
import Derived.Test.YtbhlockoeiedcaaGreatDoorK47
import Derived.Deep.AppendLies
namespace Go.Proofs.YtbhlockoeiedcaaGreatDoor
open Go.RowKit

theorem Tryz.infoRP : (Tryz.prog.info? 69).map (fun i => (i.zero, i.size, i.bytes)) = some (some (.agg #[.string ⟨#[]⟩, .int .i64 0, .int .i64 0, .int .i64 0, .int .i64 0, .int .i64 0]), 6, 56) := by kernel_rfl
theorem Tryz.infoRI : (Tryz.prog.info? 71).map (fun i => (i.zero, i.size, i.bytes)) = some (some (.agg #[.int .i64 0, .int .i64 0, .int .i64 0]), 3, 24) := by kernel_rfl
/-- The document's code, in a block of its own: two rows behind it. -/
structure Cr (bc : Nat) (vP vI : Value) (c : CoM) (w : World) : Prop where
  box : w.heap[bc]? = some (.cells #[vP, vI] 35 (0, 0))
  rowP : w.ownsRow (bc + 1) 69 6 vP c.ps.length (flatP c.ps)
  rowI : w.ownsRow (bc + 1) 71 3 vI c.is.length (flatI c.is)
theorem Cr.keep {bc : Nat} {vP vI : Value} {c : CoM} {w w' : World} (h : Cr bc vP vI c w) (hb : Below w.heap.size w w') : Cr bc vP vI c w' :=
  ⟨(hb.block bc (blkLt h.box)).trans h.box, own_keepC h.rowP fun g hg => hb.block g (h.rowP.lt g hg).2, own_keepC h.rowI fun g hg => hb.block g (h.rowI.lt g hg).2⟩
/-- A row of procedures grows by one. -/
theorem Cr.growP {bc : Nat} {vP vI vP' : Value} {c : CoM} {w W w3 : World} {p : PrM} (h : Cr bc vP vI c w) (hb : Below w.heap.size w W) (hown : w3.ownsRow (bc + 1) 69 6 vP' (c.ps.length + 1) (flatP c.ps ++ prC p)) (hg : W.grownBy w3 vP.ownBlock) :
    Cr bc vP' vI ⟨c.ps ++ [p], c.is⟩ (w3.setCell ⟨bc, 0, none⟩ vP') ∧ Below bc w (w3.setCell ⟨bc, 0, none⟩ vP') := by
  have hl := blkLt h.box
  have hP : ∀ k, k < w.heap.size → vP.ownBlock ≠ some k → w3.heap[k]? = w.heap[k]? := fun k hk hne => (hg.block k (Nat.lt_of_lt_of_le hk hb.size) (fun e => hne e.symm)).trans (hb.block k hk)
  have hbox : w3.heap[bc]? = some (.cells #[vP, vI] 35 (0, 0)) := (hP bc hl (fun e => by have := (own_ltC h.rowP bc e).1; omega)).trans h.box
  refine ⟨⟨?_, ?_, ?_⟩, hg.os.trans hb.os, hg.tape.trans hb.tape, hg.output.trans hb.output, by simp; exact Nat.le_trans hb.size hg.size, fun k hk => ?_⟩
  · rw [setAt w3 bc 0 _ _ _ _ hbox]; rfl
  · rw [List.length_append, List.length_singleton, flatP_snoc]
    exact own_keepC hown fun g hg' => setNe w3 bc 0 _ g (by have := (own_ltC hown g hg').1; omega)
  · exact own_keepC h.rowI fun g hg' => (setNe w3 bc 0 _ g (by have := (own_ltC h.rowI g hg').1; omega)).trans (hP g (own_ltC h.rowI g hg').2 (own_apart (by decide) h.rowI h.rowP g hg'))
  · exact (setNe w3 bc 0 _ k (by omega)).trans (hP k (by omega) (fun e => by have := (own_ltC h.rowP k e).1; omega))
section
variable {bc : Nat} {vP vI : Value} {c : CoM} {w : World}
/-- A row of instructions grows by one. -/
theorem Cr.growI {vI' : Value} {W w3 : World} {x : InM} (h : Cr bc vP vI c w) (hb : Below w.heap.size w W) (hown : w3.ownsRow (bc + 1) 71 3 vI' (c.is.length + 1) (flatI c.is ++ inC x)) (hg : W.grownBy w3 vI.ownBlock) :
    Cr bc vP vI' ⟨c.ps, c.is ++ [x]⟩ (w3.setCell ⟨bc, 1, none⟩ vI') ∧ Below bc w (w3.setCell ⟨bc, 1, none⟩ vI') := by
  have hl := blkLt h.box
  have hP : ∀ k, k < w.heap.size → vI.ownBlock ≠ some k → w3.heap[k]? = w.heap[k]? := fun k hk hne => (hg.block k (Nat.lt_of_lt_of_le hk hb.size) (fun e => hne e.symm)).trans (hb.block k hk)
  have hbox : w3.heap[bc]? = some (.cells #[vP, vI] 35 (0, 0)) := (hP bc hl (fun e => by have := (own_ltC h.rowI bc e).1; omega)).trans h.box
  refine ⟨⟨?_, ?_, ?_⟩, hg.os.trans hb.os, hg.tape.trans hb.tape, hg.output.trans hb.output, by simp; exact Nat.le_trans hb.size hg.size, fun k hk => ?_⟩
  · rw [setAt w3 bc 1 _ _ _ _ hbox]; rfl
  · exact own_keepC h.rowP fun g hg' => (setNe w3 bc 1 _ g (by have := (own_ltC h.rowP g hg').1; omega)).trans (hP g (own_ltC h.rowP g hg').2 (own_apart (by decide) h.rowP h.rowI g hg'))
  · rw [List.length_append, List.length_singleton, flatI_snoc]
    exact own_keepC hown fun g hg' => setNe w3 bc 1 _ g (by have := (own_ltC hown g hg').1; omega)
  · exact (setNe w3 bc 1 _ k (by omega)).trans (hP k (by omega) (fun e => by have := (own_ltC h.rowI k e).1; omega))
end
theorem Cr.co {bc : Nat} {A A2 : Option Addr} {c1 c2 : Nat} {c : CoM} {w : World} (h : Cr bc (.slice A c.ps.length c1) (.slice A2 c.is.length c2) c w) (hf : CFit c) : CoAt w w.heap.size A c1 A2 c2 c := by
  have k1 := own_cap h.rowP
  have k2 := own_cap h.rowI
  refine ⟨fun hn => ?_, fun hn => ?_, k1.1, k2.1, ⟨k1.2, k2.2⟩, fun p hp => (hf.prs p hp).1, hf.ins⟩
  · obtain ⟨g, cap, hv, hg, _, _, hc⟩ := own_read h.rowP hn
    injection hv with hv
    refine ⟨g, 0, hv, hg, fun i hi => ?_⟩
    obtain ⟨q0, q1, q2, q3, q4, q5⟩ := flatP_get c.ps i hi
    rw [Nat.zero_add]
    exact ⟨hc _ _ q0, hc _ _ q1, hc _ _ q2, hc _ _ q3, hc _ _ q4, hc _ _ q5⟩
  · obtain ⟨g, cap, hv, hg, _, _, hc⟩ := own_read h.rowI hn
    injection hv with hv
    refine ⟨g, 0, hv, hg, fun i hi => ?_⟩
    obtain ⟨q0, q1, q2⟩ := flatI_get c.is i hi
    rw [Nat.zero_add]
    exact ⟨hc _ _ q0, hc _ _ q1, hc _ _ q2⟩


theorem Cr.setLow {bc g o : Nat} {vP vI v : Value} {c : CoM} {w : World} (h : Cr bc vP vI c w) (hg : g < bc) : Cr bc vP vI c (w.setCell ⟨g, o, none⟩ v) :=
  ⟨(setNe w g o v bc (by omega)).trans h.box, own_keepC h.rowP fun k hk => setNe w g o v k (by have := (own_ltC h.rowP k hk).1; omega), own_keepC h.rowI fun k hk => setNe w g o v k (by have := (own_ltC h.rowI k hk).1; omega)⟩
/-- What Ref answers. -/
def RefP (c : CoM) (w : World) (e : Ending) (w' : World) : Prop :=
  Below w.heap.size w w' ∧ ∃ A c1 A2 c2, e = .returned (coV A c1 A2 c2 c) ∧ CoAt w' w'.heap.size A c1 A2 c2 c
theorem Cr.start {bc : Nat} {w : World} (h : w.heap[bc]? = some (.cells #[.slice none 0 0, .slice none 0 0] 35 (0, 0))) : Cr bc (.slice none 0 0) (.slice none 0 0) ⟨[], []⟩ w := ⟨h, World.ownsRow_nil _ _ _ _, World.ownsRow_nil _ _ _ _⟩
theorem alloc3r (w : World) (a b c : Array Value) (s t u : TypeId) : (((w.alloc (.cells a s)).alloc (.cells b t)).alloc (.cells c u)).heap[w.heap.size]? = some (.cells a s (0, 0)) ∧ (((w.alloc (.cells a s)).alloc (.cells b t)).alloc (.cells c u)).heap[w.heap.size + 1]? = some (.cells b t (0, 0)) ∧ (((w.alloc (.cells a s)).alloc (.cells b t)).alloc (.cells c u)).heap[w.heap.size + 1 + 1]? = some (.cells c u (0, 0)) ∧
    Below w.heap.size w (((w.alloc (.cells a s)).alloc (.cells b t)).alloc (.cells c u)) ∧ (((w.alloc (.cells a s)).alloc (.cells b t)).alloc (.cells c u)).heap.size = w.heap.size + 3 := by
  have e1 : (w.alloc (.cells a s)).heap.size = w.heap.size + 1 := by simp
  have e2 : ((w.alloc (.cells a s)).alloc (.cells b t)).heap.size = w.heap.size + 1 + 1 := by simp
  refine ⟨?_, ?_, ?_, ((((Below.refl w.heap.size w).alloc (Nat.le_refl _) _).alloc (by omega) _).alloc (by omega) _), by simp⟩
  · rw [Below.heap_alloc _ _ _ (by omega), Below.heap_alloc _ _ _ (by omega)]
    exact heapOne w a s
  · rw [Below.heap_alloc _ _ _ (by omega)]
    have := heapOne (w.alloc (.cells a s)) b t
    rwa [e1] at this
  · have := heapOne ((w.alloc (.cells a s)).alloc (.cells b t)) c u
    rwa [e2] at this
theorem news_two (W : World) (o : Obj) (a : Array Value) (t : TypeId) (g : Nat) (hg : W.heap.size + 1 = g) : ∀ j u, a.toList[j]? = some u → ((W.alloc o).alloc (.cells a t)).cell? ((⟨g, 0, none⟩ : Addr).add j) = some u := by
  subst hg
  intro j u hu
  have h := heapOne (W.alloc o) a t
  rw [show (W.alloc o).heap.size = W.heap.size + 1 by simp] at h
  rw [Addr.add_lit, Nat.zero_add, cellC h j, ← Array.getElem?_toList]
  exact hu

set_option maxRecDepth 100000 in
set_option maxHeartbeats 8000000 in
theorem ref_calls (c : CoM) (A A2 : Option Addr) (c1 c2 : Nat) (w : World) (hc : CoAt w w.heap.size A c1 A2 c2 c) (hnp : c.ps.length ≤ 100000) (hni : c.is.length ≤ 100000) (hcf : CFit c) :
    Calls Tryz.prog 12 #[coV A c1 A2 c2 c] w (RefP c w) := by
  obtain ⟨iP, hP0, hP1, hP2, hP3⟩ := info_parts Tryz.infoRP
  obtain ⟨iI, hI0, hI1, hI2, hI3⟩ := info_parts Tryz.infoRI
  have hfw := hc.few
  have hcp := hc.capP
  have hci := hc.capI
  unfold maxLen at hfw
  have HC := Lib.hid hc
  have HCF := Lib.hid hcf
  obtain ⟨k0, k1, k2, k3, k4⟩ := alloc3r w #[.slice A c.ps.length c1, .slice A2 c.is.length c2] #[.slice none 0 0, .slice none 0 0] #[.slice none 0 0, .slice none 0 0] 25 35 35
  have HX0 := Lib.hid k0
  have HX1 := Lib.hid k1
  have HX2 := Lib.hid k2
  have HBW := Lib.hid k3
  have HSZ := Lib.hid k4
  clear k0 k1 k2 k3 k4 hc hcf
  unfold coV
  go_enter Tryz.func12, Tryz.ntmps12
  go_wp2
  generalize ((w.alloc (.cells #[.slice A c.ps.length c1, .slice A2 c.is.length c2] 25)).alloc (.cells #[.slice none 0 0, .slice none 0 0] 35)).alloc (.cells #[.slice none 0 0, .slice none 0 0] 35) = W1 at *
  have HOB : Hid (w.heap.size + 1 + 1 < W1.heap.size) := Lib.hid (blkLt HX2.out)
  obtain ⟨ob, hob⟩ : ∃ ob, ob = w.heap.size + 1 + 1 := ⟨_, rfl⟩
  have HOE := Lib.hid hob
  rw [← hob] at HX2 HOB ⊢
  clear hob HSZ
  go_loopw [11] (fun i wr => ∃ (k : Nat) (vP : Value), k ≤ c.ps.length ∧ i = .int .i64 k ∧ Hid (Cr ob vP (.slice none 0 0) ⟨c.ps.take k, []⟩ wr) ∧ Hid (Below ob W1 wr)) (fun i _ => c.ps.length - (intOf i).toNat)
  case atStart => exact ⟨0, .slice none 0 0, by omega, rfl, Lib.hid (Cr.start HX2.out), Lib.hid (Below.refl _ _)⟩
  case round =>
    obtain ⟨k, vP, hk, rfl, HR, HB⟩ := hrel
    have hrow := HR.out.rowP
    have hkl : (c.ps.take k).length = k := by rw [List.length_take]; omega
    rw [hkl] at hrow
    obtain ⟨AP, cP, rfl⟩ := own_sliceC hrow
    have HROW := Lib.hid hrow
    clear hrow
    have hoe := HOE.out
    have hobl := blkLt HR.out.box
    have x0 : wr.cell? ⟨w.heap.size, 0, none⟩ = some (.slice A c.ps.length c1) := keepC HB.out (cellC HX0.out 0) (by omega)
    have x1 : wr.cell? ⟨w.heap.size, 1, none⟩ = some (.slice A2 c.is.length c2) := keepC HB.out (cellC HX0.out 1) (by omega)
    have o0 : wr.cell? ⟨ob, 0, none⟩ = some (.slice AP k cP) := cellC HR.out.box 0
    have o0n := fun o => newC o0 o
    have HBW1 := Lib.hid (HBW.out.trans (HB.out.mono (by omega)))
    clear hoe
    by_cases hlt : k < c.ps.length
    · obtain ⟨b, off, rfl, hb, hcells⟩ := (HC.out.prs) (by omega)
      obtain ⟨q0, q1, q2, q3, q4, q5⟩ := hcells k hlt
      have kk : ∀ {o : Nat} {u : Value}, w.cell? ⟨b, o, none⟩ = some u → wr.cell? ⟨b, o, none⟩ = some u := fun hq => keepC HBW1.out hq hb
      have q0 := kk q0
      have q1 := kk q1
      have q2 := kk q2
      have q3 := kk q3
      have q4 := kk q4
      have q5 := kk q5
      have HTK := Lib.hid (List.take_succ_eq_append_getElem hlt)
      generalize c.ps[k] = p at *
      have hk0 : (0 : Int) ≤ (k : Int) := by omega
      have hk1 : (k : Int) < (c.ps.length : Int) := by omega
      have HA2 := Lib.hid (below2C wr (.cells #[.string (bs p.name), .int .i64 p.frm, .int .i64 p.to, .int .i64 p.par, .int .i64 p.slo, .int .i64 p.typ] 64) (.cells #[.string (bs p.name), .int .i64 p.frm, .int .i64 p.to, .int .i64 p.par, .int .i64 p.slo, .int .i64 p.typ] 69))
      have HV := Lib.hid (own_keepC HROW.out fun g hg => HA2.out.block g (own_ltC HROW.out g hg).2)
      have HOB3 : Hid (∀ w3, ((wr.alloc (.cells #[.string (bs p.name), .int .i64 p.frm, .int .i64 p.to, .int .i64 p.par, .int .i64 p.slo, .int .i64 p.typ] 64)).alloc (.cells #[.string (bs p.name), .int .i64 p.frm, .int .i64 p.to, .int .i64 p.par, .int .i64 p.slo, .int .i64 p.typ] 69)).grownBy w3 (Value.slice AP k cP).ownBlock → w3.frozen? ⟨ob, 0, none⟩ = false ∧ w3.cell? ⟨ob, 0, none⟩ = some (.slice AP k cP)) := Lib.hid fun w3 hg => by
        have h1 := (hg.block ob (by simp; omega) (fun e => by have := (own_ltC HROW.out ob e.symm).1; omega)).trans ((HA2.out.block ob hobl).trans HR.out.box)
        exact ⟨by simp [World.frozen?, h1], cellC h1 0⟩
      clear kk hcells hkl
      go_wp2_with (at_builtin; refine wpList_append_own _ rfl _ _ 32 rfl (ob + 1) 69 iP (.agg #[.string ⟨#[]⟩, .int .i64 0, .int .i64 0, .int .i64 0, .int .i64 0, .int .i64 0]) 6 56 Tryz.underlying32 hP0 hP1 hP2 hP3 rfl (by decide) (.slice AP k cP) k (flatP (c.ps.take k)) rfl HV.out ⟨wr.heap.size + 1, 0, none⟩ 1 1 (prC p) (by rfl) rfl (news_two wr _ #[.string (bs p.name), .int .i64 p.frm, .int .i64 p.to, .int .i64 p.par, .int .i64 p.slo, .int .i64 p.typ] _ _ rfl) (onePr p) (by unfold maxLen; omega) (by omega) (by simp; omega) ?_; intro v' w3 hown3 hgrow hnil; clear hnil; obtain ⟨Av, cv, rfl⟩ := own_sliceC hown3; have HG := Lib.hid hgrow; have H3 := Lib.hid hown3; obtain ⟨f3, d3⟩ := HOB3.out _ hgrow; clear hgrow hown3)
      have HN := Lib.hid (HR.out.growP (p := p) (vP' := .slice Av (k + 1) cv) HA2.out (by rw [List.length_take, Nat.min_eq_left (by omega)]; exact H3.out) HG.out)
      go_roundw
      case rel => exact ⟨k + 1, .slice Av (k + 1) cv, by omega, by go_num, Lib.hid (by rw [HTK.out]; exact HN.out.1), Lib.hid (HB.out.trans HN.out.2)⟩
      case measure => simp [intOf]; omega
    · obtain rfl : k = c.ps.length := by omega
      rw [List.take_length] at HR HROW
      clear hlt hk hkl
      go_wp2_with fail
      go_loopw [25] (fun i wq => ∃ (k : Nat) (vI : Value), k ≤ c.is.length ∧ i = .int .i64 k ∧ Hid (Cr ob (.slice AP c.ps.length cP) vI ⟨c.ps, c.is.take k⟩ wq) ∧ Hid (Below ob W1 wq)) (fun i _ => c.is.length - (intOf i).toNat)
      case atStart => exact ⟨0, .slice none 0 0, by omega, rfl, HR, HB⟩
      case round =>
        clear x0 x1 o0 o0n HBW1 hobl HROW HR HB
        obtain ⟨k, vI, hk, rfl, HR, HB⟩ := hrel
        have hrow := HR.out.rowI
        have hkl : (c.is.take k).length = k := by rw [List.length_take]; omega
        rw [hkl] at hrow
        obtain ⟨AI, cI, rfl⟩ := own_sliceC hrow
        have HROW := Lib.hid hrow
        clear hrow
        have hoe := HOE.out
        have hobl := blkLt HR.out.box
        have x0 : wr.cell? ⟨w.heap.size, 0, none⟩ = some (.slice A c.ps.length c1) := keepC HB.out (cellC HX0.out 0) (by omega)
        have x1 : wr.cell? ⟨w.heap.size, 1, none⟩ = some (.slice A2 c.is.length c2) := keepC HB.out (cellC HX0.out 1) (by omega)
        have o0 : wr.cell? ⟨ob, 0, none⟩ = some (.slice AP c.ps.length cP) := cellC HR.out.box 0
        have o1 : wr.cell? ⟨ob, 1, none⟩ = some (.slice AI k cI) := cellC HR.out.box 1
        have o1n := fun o => newC o1 o
        have HBW1 := Lib.hid (HBW.out.trans (HB.out.mono (by omega)))
        have HRB := Lib.hid ((HB.out.block (w.heap.size + 1) (by omega)).trans HX1.out)
        have hrb : w.heap.size + 1 < ob := by omega
        clear hoe
        by_cases hlt : k < c.is.length
        · obtain ⟨b, off, rfl, hb, hcells⟩ := (HC.out.ins) (by omega)
          obtain ⟨q0, q1, q2⟩ := hcells k hlt
          have kk : ∀ {o : Nat} {u : Value}, w.cell? ⟨b, o, none⟩ = some u → wr.cell? ⟨b, o, none⟩ = some u := fun hq => keepC HBW1.out hq hb
          have q0 := kk q0
          have q1 := kk q1
          have q2 := kk q2
          have HTK := Lib.hid (List.take_succ_eq_append_getElem hlt)
          generalize c.is[k] = x at *
          have hk0 : (0 : Int) ≤ (k : Int) := by omega
          have hk1 : (k : Int) < (c.is.length : Int) := by omega
          have HA2 := Lib.hid (below2C wr (.cells #[.int .i64 x.op, .int .i64 x.arg, .int .i64 x.mor] 62) (.cells #[.int .i64 x.op, .int .i64 x.arg, .int .i64 x.mor] 71))
          have HV := Lib.hid (own_keepC HROW.out fun g hg => HA2.out.block g (own_ltC HROW.out g hg).2)
          have HOB3 : Hid (∀ w3, ((wr.alloc (.cells #[.int .i64 x.op, .int .i64 x.arg, .int .i64 x.mor] 62)).alloc (.cells #[.int .i64 x.op, .int .i64 x.arg, .int .i64 x.mor] 71)).grownBy w3 (Value.slice AI k cI).ownBlock → w3.frozen? ⟨ob, 1, none⟩ = false ∧ w3.cell? ⟨ob, 1, none⟩ = some (.slice AI k cI)) := Lib.hid fun w3 hg => by
            have h1 := (hg.block ob (by simp; omega) (fun e => by have := (own_ltC HROW.out ob e.symm).1; omega)).trans ((HA2.out.block ob hobl).trans HR.out.box)
            exact ⟨by simp [World.frozen?, h1], cellC h1 1⟩
          clear kk hcells hkl o0 HRB
          go_wp2_with (at_builtin; refine wpList_append_own _ rfl _ _ 33 rfl (ob + 1) 71 iI (.agg #[.int .i64 0, .int .i64 0, .int .i64 0]) 3 24 Tryz.underlying33 hI0 hI1 hI2 hI3 rfl (by decide) (.slice AI k cI) k (flatI (c.is.take k)) rfl HV.out ⟨wr.heap.size + 1, 0, none⟩ 1 1 (inC x) (by rfl) rfl (news_two wr _ #[.int .i64 x.op, .int .i64 x.arg, .int .i64 x.mor] _ _ rfl) (oneIn x) (by unfold maxLen; omega) (by omega) (by simp; omega) ?_; intro v' w3 hown3 hgrow hnil; clear hnil; obtain ⟨Av, cv, rfl⟩ := own_sliceC hown3; have HG := Lib.hid hgrow; have H3 := Lib.hid hown3; obtain ⟨f3, d3⟩ := HOB3.out _ hgrow; clear hgrow hown3)
          have HN := Lib.hid (HR.out.growI (x := x) (vI' := .slice Av (k + 1) cv) HA2.out (by rw [List.length_take, Nat.min_eq_left (by omega)]; exact H3.out) HG.out)
          go_roundw
          case rel => exact ⟨k + 1, .slice Av (k + 1) cv, by omega, by go_num, Lib.hid (by rw [HTK.out]; exact HN.out.1), Lib.hid (HB.out.trans HN.out.2)⟩
          case measure => simp [intOf]; omega
        · obtain rfl : k = c.is.length := by omega
          rw [List.take_length] at HR
          have HCO := Lib.hid (HR.out.co HCF.out)
          have r0 : wr.cell? ⟨w.heap.size + 1, 0, none⟩ = some (.slice none 0 0) := cellC HRB.out 0
          have r1 : wr.cell? ⟨w.heap.size + 1, 1, none⟩ = some (.slice none 0 0) := cellC HRB.out 1
          have fr : ∀ o, wr.frozen? ⟨w.heap.size + 1, o, none⟩ = false := fun o => by simp [World.frozen?, HRB.out]
          have hrbl := blkLt HRB.out
          clear hlt hk hkl x0 x1 o1n HROW
          go_wp2
          have HS := Lib.hid ((HR.out.setLow (g := w.heap.size + 1) (o := 0) (v := .slice AP c.ps.length cP) hrb).setLow (g := w.heap.size + 1) (o := 1) (v := .slice AI c.is.length cI) hrb)
          have HBZ := Lib.hid (((HBW1.out.setCell (p := ⟨w.heap.size + 1, 0, none⟩) (by simp) (.slice AP c.ps.length cP))).setCell (p := ⟨w.heap.size + 1, 1, none⟩) (by simp) (.slice AI c.is.length cI))
          have HH := Lib.hid (setAt _ (w.heap.size + 1) 1 (.slice AI c.is.length cI) _ _ _ (setAt wr (w.heap.size + 1) 0 (.slice AP c.ps.length cP) _ _ _ HRB.out))
          have s0 := cellC HH.out 0
          have s1 := cellC HH.out 1
          generalize (wr.setCell ⟨w.heap.size + 1, 0, none⟩ (.slice AP c.ps.length cP)).setCell ⟨w.heap.size + 1, 1, none⟩ (.slice AI c.is.length cI) = W5 at *
          have s0 : W5.cell? ⟨w.heap.size + 1, 0, none⟩ = some (.slice AP c.ps.length cP) := s0
          have s1 : W5.cell? ⟨w.heap.size + 1, 1, none⟩ = some (.slice AI c.is.length cI) := s1
          exact bodyPost_ret (v := .agg #[.slice AP c.ps.length cP, .slice AI c.is.length cI]) (by simp [results, Tryz.results12, go_sem, s0, s1]) rfl ⟨HBZ.out, AP, cP, AI, cI, rfl, HS.out.co HCF.out⟩
/-- What the document's Heights answers. -/
def RHgP (c : CoM) (w : World) (e : Ending) (w' : World) : Prop :=
  Below w.heap.size w w' ∧ ((GoodC c ∧ ∃ hs g, HtsC c hs ∧ e = .returned (.tuple #[.slice (some ⟨g, 0, none⟩) hs.length hs.length, .bool true]) ∧ w'.heap[g]? = some (.cells (intsL hs).toArray 3 (0, 0))) ∨
   (¬ GoodC c ∧ e = .returned (.tuple #[.slice none 0 0, .bool false])))
end Go.Proofs.YtbhlockoeiedcaaGreatDoor
