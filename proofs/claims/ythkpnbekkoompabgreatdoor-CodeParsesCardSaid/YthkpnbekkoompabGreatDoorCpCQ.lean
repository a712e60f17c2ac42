/-
  code.takeProcedure: a procedure's line.
-/
import Derived.Test.YthkpnbekkoompabGreatDoorCpBQ
import Derived.Test.YthkpnbekkoompabGreatDoorQ05
import Derived.Deep.RegionLaw
import Derived.Deep.AppendLies
import Derived.BigRegion
namespace Go.Proofs.YthkpnbekkoompabGreatDoor
open Go.RowKit

def prC (p : PrM) : List Value := [.string (bs p.name), .int .i64 p.frm, .int .i64 p.to, .int .i64 p.par, .int .i64 p.slo, .int .i64 p.typ]
def inC (x : InM) : List Value := [.int .i64 x.op, .int .i64 x.arg, .int .i64 x.mor]
def flatP (ps : List PrM) : List Value := ps.flatMap prC
def flatI (xs : List InM) : List Value := xs.flatMap inC
/-- Code that is built, in a block of its own: two rows behind it. -/
structure Cc (bc : Nat) (vP vI : Value) (c : CoM) (w : World) : Prop where
  box : w.heap[bc]? = some (.cells #[vP, vI] 26 (0, 0))
  rowP : w.ownsRow (bc + 1) 56 6 vP c.ps.length (flatP c.ps)
  rowI : w.ownsRow (bc + 1) 42 3 vI c.is.length (flatI c.is)
theorem Cc.keep {bc : Nat} {vP vI : Value} {c : CoM} {w w' : World} (h : Cc bc vP vI c w) (hb : Below w.heap.size w w') : Cc bc vP vI c w' :=
  ⟨(hb.block bc (blkLt h.box)).trans h.box, own_keepC h.rowP fun g hg => hb.block g (h.rowP.lt g hg).2, own_keepC h.rowI fun g hg => hb.block g (h.rowI.lt g hg).2⟩
/-- What taking a line's parts leaves. -/
def TkP (bc : Nat) (r : Option CoM) (w : World) (e : Ending) (w' : World) : Prop :=
  Below bc w w' ∧ match r with
    | none => e = .returned (.bool false)
    | some c' => e = .returned (.bool true) ∧ ∃ vP vI, Cc bc vP vI c' w'
theorem tk_none {bc : Nat} {r : Option CoM} {w w' : World} (h : r = none) (hb : Below bc w w') : TkP bc r w (.returned (.bool false)) w' := by subst h; exact ⟨hb, rfl⟩
theorem tk_some {bc : Nat} {r : Option CoM} {c' : CoM} {vP vI : Value} {w w' : World} (h : r = some c') (hb : Below bc w w') (hc : Cc bc vP vI c' w') : TkP bc r w (.returned (.bool true)) w' := by subst h; exact ⟨hb, rfl, vP, vI, hc⟩
theorem takePM_no {c : CoM} {ps : List (List UInt8)} (h : ¬ (ps.length = 5 ∧ isNm (ps.getD 1 []) = true)) : takePM c ps = none := by unfold takePM; rw [if_neg h]
theorem takePM_bad {c : CoM} {ps : List (List UInt8)} (h : numsM (ps.drop 2) = none) : takePM c ps = none := by
  unfold takePM
  split
  · rw [h]
  · rfl
theorem takePM_yes {c : CoM} {ps : List (List UInt8)} {t : List UInt8} {a b d : Int} (h1 : ps.length = 5) (ht : ps.getD 1 [] = t) (h2 : isNm t = true) (h : numsM (ps.drop 2) = some [a, b, d]) : takePM c ps = some ⟨c.ps ++ [⟨t, c.is.length, c.is.length, a, b, d⟩], c.is⟩ := by
  unfold takePM
  rw [ht, if_pos ⟨h1, h2⟩, h]
  rfl
theorem own_apart {w : World} {b1 b2 n m s1 s2 : Nat} {e1 e2 : TypeId} {u v : Value} {xs ys : List Value} (he : e1 ≠ e2) (h : w.ownsRow b1 e1 s1 u n xs) (k : w.ownsRow b2 e2 s2 v m ys) (g : Nat) (hg : u.ownBlock = some g) : v.ownBlock ≠ some g := fun hv => by
  rcases h.2 with ⟨rfl, _⟩ | ⟨g1, _, cur, rfl, _, h3, _⟩
  · cases hg
  · rcases k.2 with ⟨rfl, _⟩ | ⟨g2, _, cur2, rfl, _, k3, _⟩
    · cases hv
    · simp only [Value.ownBlock, Option.some.injEq] at hg hv
      subst hg
      subst hv
      rw [h3] at k3
      injection k3 with k3
      injection k3 with _ k4 _
      exact he k4
theorem flatP_snoc (ps : List PrM) (p : PrM) : flatP (ps ++ [p]) = flatP ps ++ prC p := by simp [flatP]
theorem flatI_snoc (xs : List InM) (x : InM) : flatI (xs ++ [x]) = flatI xs ++ inC x := by simp [flatI]
theorem onePr (p : PrM) : ∀ u ∈ prC p, u.oneCell' = true := by
  intro u hu; simp [prC] at hu; rcases hu with rfl | rfl | rfl | rfl | rfl | rfl <;> rfl
theorem oneIn (x : InM) : ∀ u ∈ inC x, u.oneCell' = true := by
  intro u hu; simp [inC] at hu; rcases hu with rfl | rfl | rfl <;> rfl
/-- A row of procedures grows by one. -/
theorem Cc.growP {bc : Nat} {vP vI vP' : Value} {c : CoM} {w W w3 : World} {p : PrM} (h : Cc bc vP vI c w) (hb : Below w.heap.size w W) (hown : w3.ownsRow (bc + 1) 56 6 vP' (c.ps.length + 1) (flatP c.ps ++ prC p)) (hg : W.grownBy w3 vP.ownBlock) :
    Cc bc vP' vI ⟨c.ps ++ [p], c.is⟩ (w3.setCell ⟨bc, 0, none⟩ vP') ∧ Below bc w (w3.setCell ⟨bc, 0, none⟩ vP') := by
  have hl := blkLt h.box
  have hP : ∀ k, k < w.heap.size → vP.ownBlock ≠ some k → w3.heap[k]? = w.heap[k]? := fun k hk hne => (hg.block k (Nat.lt_of_lt_of_le hk hb.size) (fun e => hne e.symm)).trans (hb.block k hk)
  have hbox : w3.heap[bc]? = some (.cells #[vP, vI] 26 (0, 0)) := (hP bc hl (fun e => by have := (own_ltC h.rowP bc e).1; omega)).trans h.box
  refine ⟨⟨?_, ?_, ?_⟩, hg.os.trans hb.os, hg.tape.trans hb.tape, hg.output.trans hb.output, by simp; exact Nat.le_trans hb.size hg.size, fun k hk => ?_⟩
  · rw [setAt w3 bc 0 _ _ _ _ hbox]; rfl
  · rw [List.length_append, List.length_singleton, flatP_snoc]
    exact own_keepC hown fun g hg' => setNe w3 bc 0 _ g (by have := (own_ltC hown g hg').1; omega)
  · exact own_keepC h.rowI fun g hg' => (setNe w3 bc 0 _ g (by have := (own_ltC h.rowI g hg').1; omega)).trans (hP g (own_ltC h.rowI g hg').2 (own_apart (by decide) h.rowI h.rowP g hg'))
  · exact (setNe w3 bc 0 _ k (by omega)).trans (hP k (by omega) (fun e => by have := (own_ltC h.rowP k e).1; omega))
theorem Tryz.infoPr : (Tryz.prog.info? 56).map (fun i => (i.zero, i.size, i.bytes)) = some (some (.agg #[.string ⟨#[]⟩, .int .i64 0, .int .i64 0, .int .i64 0, .int .i64 0, .int .i64 0]), 6, 56) := by kernel_rfl
theorem Tryz.infoIn : (Tryz.prog.info? 42).map (fun i => (i.zero, i.size, i.bytes)) = some (some (.agg #[.int .i64 0, .int .i64 0, .int .i64 0]), 3, 24) := by kernel_rfl
theorem sclone_calls (t : List UInt8) (ht : t.length ≤ 1000000) (w : World) : Calls Tryz.prog 43 #[.string (bs t)] w fun e w' => e = .returned (.string (bs t)) ∧ Below w.heap.size w w' := by
  have H := Lib.hid (fun W => Tryz.cloneW (bs t) W (by rw [bs_size]; omega))
  go_enter Tryz.func43, Tryz.ntmps43
  go_wp2_with (go_at_call 65; refine (H.out _).mono ?_; rintro e w1 ⟨rfl, hB⟩; have HB := Lib.hid hB; clear hB)
  go_ret
  exact ⟨rfl, HB.out⟩

section
variable {bc : Nat} {vP vI : Value} {c : CoM} {w : World} {ps : List (List UInt8)}
set_option maxRecDepth 100000 in
set_option maxHeartbeats 1000000 in
theorem takeP_len (A : Option Addr) (cap : Nat) (hn : ps.length ≠ 5) : Calls Tryz.prog 22 #[.pointer (some ⟨bc, 0, none⟩), .slice A ps.length cap] w (TkP bc (takePM c ps) w) := by
  have HM : Hid (takePM c ps = none) := Lib.hid (takePM_no (fun h => hn h.1))
  have e1 : ((ps.length : Int) == 5) = false := beq_eq_false_iff_ne.2 (by omega)
  have e2 : (ps.length == 5) = false := beq_eq_false_iff_ne.2 hn
  have e3 : ((ps.length : Int) != 5) = true := by simp [bne, e1]
  have e4 : (ps.length != 5) = true := by simp [bne, e2]
  clear hn
  go_enter Tryz.func22, Tryz.ntmps22
  go_wp2
  go_ret
  exact tk_none HM.out (Below.refl _ _)
set_option maxRecDepth 100000 in
set_option maxHeartbeats 4000000 in
theorem takeP_five (hbc : bc ≤ w.heap.size) (hc : Cc bc vP vI c w) (b off cap : Nat) (hn : ps.length = 5) (hcap : 5 ≤ cap) (hA : SxAt w (some ⟨b, off, none⟩) ps) (hT : TX w) (hl : ∀ t ∈ ps, t.length ≤ 100000) (hf : c.ps.length ≤ 1000000) (_hfi : c.is.length ≤ 1000000) :
    Calls Tryz.prog 22 #[.pointer (some ⟨bc, 0, none⟩), .slice (some ⟨b, off, none⟩) 5 cap] w (TkP bc (takePM c ps) w) := by
  obtain ⟨i0, hi0, hz0, hz1, hz2⟩ := info_parts Tryz.infoPr
  obtain ⟨b', off', hbb, hb, hcl⟩ := hA (by omega)
  injection hbb with hbb
  injection hbb with e1 e2
  subst e1 e2
  have h1 : 1 < ps.length := by omega
  have q1 := hcl 1 h1
  have g1 : ps.getD 1 [] = ps[1] := by rw [List.getD_eq_getElem?_getD, List.getElem?_eq_getElem h1]; rfl
  have HG1 := Lib.hid g1
  have hl1 := hl _ (List.getElem_mem h1)
  have HS2 : Hid (∀ W, Below w.heap.size w W → SxAt W (some ⟨b, off + 2, none⟩) (ps.drop 2)) := Lib.hid fun W hB hlen => ⟨b, off + 2, rfl, Nat.lt_of_lt_of_le hb hB.size, fun j hj => by
    rw [List.length_drop] at hj
    have h2 := keepC hB (hcl (2 + j) (by omega)) hb
    rw [List.getElem_drop, show off + 2 + j = off + (2 + j) by omega]
    exact h2⟩
  have hd3 : (ps.drop 2).length = 3 := by rw [List.length_drop]; omega
  have HNU := Lib.hid (fun W (hB : Below w.heap.size w W) => numbers_calls (ps.drop 2) (some ⟨b, off + 2, none⟩) (cap - 2) W (hT.below hB (Nat.le_refl _)) (HS2.out W hB) (fun t ht => by have := hl t (List.mem_of_mem_drop ht); omega) (by omega))
  rw [hd3] at HNU
  have HIN := Lib.hid (fun W (hB : Below w.heap.size w W) => isName_calls ps[1] hl1 W (hT.below hB (Nat.le_refl _)).ts.tabs)
  have HCL := Lib.hid (fun W => sclone_calls ps[1] (by omega) W)
  have HC := Lib.hid hc
  have HL3 : Hid (∀ l, numsM (ps.drop 2) = some l → l.length = 3) := Lib.hid fun l hx => by rw [numsM_len _ _ hx, hd3]
  have HN5 := Lib.hid hn
  generalize ps[1] = t1 at *
  clear hcl hA hT hl hc hn hd3 g1 HS2
  have hcap2 : (2 : Int) ≤ (cap : Int) := by omega
  have hcap3 : ¬ cap = 2 := by omega
  have hcap5 : (5 : Int) ≤ (cap : Int) := by omega
  cases hnm : isNm t1 with
  | false =>
    have HR : Hid (takePM c ps = none) := Lib.hid (takePM_no (fun h => by rw [HG1.out, hnm] at h; cases h.2))
    rw [hnm] at HIN
    clear hnm
    go_enter Tryz.func22, Tryz.ntmps22
    go_wp2_with (go_at_call 41; refine (HIN.out _ (Below.refl _ _)).mono ?_; rintro e w1 ⟨rfl, hB1⟩; have HB1 := Lib.hid hB1; clear hB1)
    go_ret
    exact tk_none HR.out (HB1.out.mono hbc)
  | true =>
    rw [hnm] at HIN
    have HNM := Lib.hid hnm
    clear hnm
    go_enter Tryz.func22, Tryz.ntmps22
    go_wp2_with (go_at_call 41; refine (HIN.out _ (Below.refl _ _)).mono ?_; rintro e w1 ⟨rfl, hB1⟩; have HB1 := Lib.hid hB1; have q1 := keepC hB1 q1 hb; clear hB1)
    refine (HNU.out _ HB1.out).mono ?_
    rintro e w2 ⟨hB2, hnum⟩
    have HB2 := Lib.hid (HB1.out.trans (hB2.mono HB1.out.size))
    have HB12 := Lib.hid (hB2.mono (Nat.le_refl _))
    have q1 := keepC hB2 q1 (ltC q1)
    clear hB2 HNU HIN
    rcases hnum with ⟨hnone, rfl⟩ | ⟨l, v, hsome, rfl, hown⟩
    · have HR := Lib.hid (takePM_bad (c := c) hnone)
      clear hnone
      go_wp2
      go_ret
      exact tk_none HR.out (HB2.out.mono hbc)
    · have hl3 := HL3.out l hsome
      obtain ⟨n0, n1, n2, rfl⟩ : ∃ a b d, l = [a, b, d] := by
        match l, hl3 with
        | [a, b, d], _ => exact ⟨a, b, d, rfl⟩
      have HR := Lib.hid (takePM_yes (c := c) HN5.out HG1.out HNM.out hsome)
      clear hsome hl3 HL3
      obtain ⟨AP, cP, rfl⟩ := own_sliceC HC.out.rowP
      obtain ⟨AI, cI, rfl⟩ := own_sliceC HC.out.rowI
      obtain ⟨g, capn, rfl, hgb, _, _, hnc⟩ := ownForm (n := 2) hown
      have m0 := hnc 0 _ rfl
      have m1 := hnc 1 _ rfl
      have m2 := hnc 2 _ rfl
      have HC2 := Lib.hid (HC.out.keep HB2.out)
      have x0 := cellC HC2.out.box 0
      have x1 := cellC HC2.out.box 1
      clear hown hnc hgb
      go_wp2_with fail
      refine (HCL.out w2).mono ?_
      rintro e w3 ⟨rfl, hB3⟩
      have m0 := keepC hB3 m0 (ltC m0)
      have m1 := keepC hB3 m1 (ltC m1)
      have m2 := keepC hB3 m2 (ltC m2)
      have HC3 := Lib.hid (HC2.out.keep hB3)
      have HB3 := Lib.hid (HB2.out.trans (hB3.mono HB2.out.size))
      have x0 := cellC HC3.out.box 0
      have hbl : bc < w3.heap.size := blkLt HC3.out.box
      have HBA := Lib.hid (((Below.refl w3.heap.size w3).drew).alloc (by show w3.heap.size ≤ w3.heap.size; omega) (.cells (prC ⟨t1, c.is.length, c.is.length, n0, n1, n2⟩).toArray 56))
      have HNB := Lib.hid (World.news_of_block (heapOne w3.drew (prC ⟨t1, c.is.length, c.is.length, n0, n1, n2⟩).toArray 56))
      have HOA := Lib.hid (own_keepC HC3.out.rowP fun g hg => HBA.out.block g (own_ltC HC3.out.rowP g hg).2)
      have HON := Lib.hid (onePr ⟨t1, c.is.length, c.is.length, n0, n1, n2⟩)
      have HGR := Lib.hid (fun W v' w4 h1 h2 => HC3.out.growP (W := W) (vP' := v') (w3 := w4) (p := ⟨t1, c.is.length, c.is.length, n0, n1, n2⟩) h1 h2)
      have hno := HC3.out.rowP.lt
      have HNOP := Lib.hid hno
      clear hB3 hno HC2 HCL q1
      go_wp2
      go_region_law ((refine step_append_lies _ rfl (.tmp 40) (.tmp 54) 23 rfl (bc + 1) 56 i0 (.agg #[.string ⟨#[]⟩, .int .i64 0, .int .i64 0, .int .i64 0, .int .i64 0, .int .i64 0]) 6 56 Tryz.underlying23 hi0 hz0 hz1 hz2 rfl (by decide) (.slice AP c.ps.length cP) c.ps.length (flatP c.ps) (by simp [Act.eval]) HOA.out ⟨w3.heap.size, 0, none⟩ 1 1 (prC ⟨t1, c.is.length, c.is.length, n0, n1, n2⟩) (by simp [Act.eval]) rfl HNB.out HON.out (by decide) (by unfold maxLen; omega) (by omega) (by simp; omega) (w3.heap.size + 1) (by simp) ?_; intro g4 cap4 w4 hown hgrow hat hg4; have HG := Lib.hid hgrow; have HO4 := Lib.hid hown; have hbx := (hgrow.block bc (by simp; omega) (fun e => by have := (HNOP.out bc e.symm).1; omega)).trans ((HBA.out.block bc hbl).trans HC3.out.box); have hc4 := cellC hbx 0; have hf4 : w4.frozen? ⟨bc, 0, none⟩ = false := (by simp [World.frozen?, hbx]); clear hgrow hown hat hbx))
      all_goals
        go_wp2
        go_ret
        exact tk_some HR.out (((HB3.out.mono hbc).trans (HGR.out _ _ _ HBA.out HO4.out HG.out).2)) (HGR.out _ _ _ HBA.out HO4.out HG.out).1
end
end Go.Proofs.YthkpnbekkoompabGreatDoor
