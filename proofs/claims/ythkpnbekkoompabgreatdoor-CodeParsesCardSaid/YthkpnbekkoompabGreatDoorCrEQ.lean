/-
  rewindref10.Heights: the document's heights.
-/
import Derived.Test.YthkpnbekkoompabGreatDoorQ08
import Derived.Test.YthkpnbekkoompabGreatDoorQ02
import Derived.Test.YthkpnbekkoompabGreatDoorQ03
import Derived.Test.YthkpnbekkoompabGreatDoorCoR
import Derived.Test.YthkpnbekkoompabGreatDoorQ05
import Derived.Deep.OwnRows
namespace Go.Proofs.YthkpnbekkoompabGreatDoor
open Go.RowKit

theorem made_rep (n : Nat) : madeCells #[.int .i64 0] n = (intsL (List.replicate n 0)).toArray := by
  apply Array.ext'
  rw [toList_madeCells_one]
  simp [intsL]
/-- Heights, of which the first are laid. -/
def fillM (j n : Nat) : List Int := List.replicate j (-1) ++ List.replicate (n - j) 0
theorem fillM_zero (n : Nat) : fillM 0 n = List.replicate n 0 := by simp [fillM]
theorem fillM_all (n : Nat) : fillM n n = List.replicate n (-1) := by simp [fillM]
theorem fillM_set {j n : Nat} (h : j < n) : ((intsL (fillM j n)).toArray.setIfInBounds j (.int .i64 (-1))) = (intsL (fillM (j + 1) n)).toArray := by
  rw [intsL_set]
  congr 2
  unfold fillM
  obtain ⟨m, hm⟩ : ∃ m, n - j = m + 1 := ⟨n - j - 1, by omega⟩
  rw [hm, show n - (j + 1) = m by omega, List.set_append_right _ _ (by simp)]
  simp only [List.length_replicate, Nat.sub_self, List.replicate_succ (n := m), List.set_cons_zero]
  rw [List.replicate_succ' (n := j), List.append_assoc]
  rfl
theorem fillM_cell {w : World} {gH j n : Nat} (h : w.heap[gH]? = some (.cells (intsL (fillM j n)).toArray 3 (0, 0))) (hj : j < n) : w.cell? ⟨gH, j, none⟩ = some (.int .i64 0) := by
  rw [cellC h j]
  have : (fillM j n)[j]? = some 0 := by
    unfold fillM
    rw [List.getElem?_append_right (by simp), List.length_replicate, Nat.sub_self, List.getElem?_replicate, if_pos (by omega)]
  simp [intsL, this]
theorem bad_pr {c : CoM} {k : Nat} {e : Int} (hk : k < c.ps.length) (hr : ordB 0 c.ps = ordB e (c.ps.drop k)) (he : 0 ≤ e)
    (h : ¬ ((c.ps[k]).frm = e ∧ e < (c.ps[k]).to ∧ (c.ps[k]).to ≤ (c.is.length : Int) ∧ 0 ≤ (c.ps[k]).par ∧ (c.ps[k]).par ≤ (c.ps[k]).slo ∧ (c.ps[k]).slo ≤ 64 ∧ ((c.ps[k]).typ = 1 ∨ (c.ps[k]).typ = 4) ∧ isNm (c.ps[k]).name = true)) : ¬ GoodC c := fun hg => by
  apply h
  have hst := hg.1
  have h1 := hst.1.2
  rw [hr, ordB_step e c.ps k hk] at h1
  obtain ⟨p1, p2, p3, p4, p5⟩ := (hst.2 _ (List.getElem_mem hk)).1
  split at h1
  · rename_i hc
    have h2 := (ordB_range _ _ _ (by omega) h1).1
    exact ⟨hc.1, hc.2, h2, p1, p2, p3, p4, p5⟩
  · cases h1
/-- The procedures up to k are as they must be. -/
structure PrsI (c : CoM) (k : Nat) (e : Int) : Prop where
  ord : ordB 0 c.ps = ordB e (c.ps.drop k)
  nn : 0 ≤ e
  ok : ∀ p ∈ c.ps.take k, prOk p
theorem PrsI.step {c : CoM} {k : Nat} {e : Int} (h : PrsI c k e) (hk : k < c.ps.length) (h1 : (c.ps[k]).frm = e) (h2 : e < (c.ps[k]).to) (h3 : prOk c.ps[k]) : PrsI c (k + 1) (c.ps[k]).to := by
  refine ⟨?_, by have := h.nn; omega, fun p hp => ?_⟩
  · rw [h.ord, ordB_step e c.ps k hk, if_pos ⟨h1, h2⟩]
  · rw [List.take_succ_eq_append_getElem hk] at hp
    rcases List.mem_append.1 hp with hp | hp
    · exact h.ok p hp
    · rw [List.mem_singleton.1 hp]; exact h3

theorem hsAt {w : World} {g : Nat} {hs : List Int} (h : w.heap[g]? = some (.cells (intsL hs).toArray 3 (0, 0))) (i : Nat) (hi : i < hs.length) : w.cell? ⟨g, i, none⟩ = some (.int .i64 (hAt hs i)) := by
  rw [cellC h i]
  unfold intsL hAt
  rw [List.getD_eq_getElem?_getD, List.getElem?_eq_getElem hi]
  simp [hi]
theorem takesM_bd {c : CoM} (hst : StOk c) {p : PrM} {x : InM} (hx : inOk p c.ps.length x) : 0 ≤ takesM c x ∧ takesM c x ≤ 64 := by
  unfold takesM
  have ha := hx.2.1
  unfold argOk at ha
  by_cases h26 : x.op = 26
  · rw [if_pos h26]
    rw [if_neg (by omega), if_neg (by omega), if_neg (by omega), if_neg (by omega), if_pos h26] at ha
    have hk : x.arg.toNat < c.ps.length := by omega
    rw [List.getD_eq_getElem?_getD, List.getElem?_eq_getElem hk]
    obtain ⟨p1, p2, p3, _⟩ := (hst.2 _ (List.getElem_mem hk)).1
    simp only [Option.getD_some]
    omega
  · rw [if_neg h26]
    by_cases h27 : x.op = 27
    · rw [if_pos h27]
      rw [if_neg (by omega), if_neg (by omega), if_neg (by omega), if_neg (by omega), if_neg (by omega), if_pos h27] at ha
      have := ansM_nn p
      omega
    · rw [if_neg h27]
      have := tkL_nn x.op.toNat
      omega
theorem insAt_get {c : CoM} {i : Nat} (h : i < c.is.length) : insAt c i = c.is[i] := by
  unfold insAt
  rw [List.getD_eq_getElem?_getD, List.getElem?_eq_getElem h]; rfl
theorem ways_set {w : World} {gl gH o : Nat} {v : Value} {l : List (Nat × Int)} (h : WaysAt w (some ⟨gl, 0, none⟩) l) (hne : gl ≠ gH) : WaysAt (w.setCell ⟨gH, o, none⟩ v) (some ⟨gl, 0, none⟩) l := fun hn => by
  obtain ⟨g, hg, hlt, hc⟩ := h hn
  injection hg with hg
  injection hg with hg
  subst hg
  have hk : ∀ p, (w.setCell ⟨gH, o, none⟩ v).cell? ⟨gl, p, none⟩ = w.cell? ⟨gl, p, none⟩ := fun p => World.cell?_of_block (a := ⟨gl, p, none⟩) (setNe w gH o v gl hne)
  exact ⟨gl, rfl, by simpa using hlt, fun j hj => ⟨(hk _).trans (hc j hj).1, (hk _).trans (hc j hj).2⟩⟩
/-- What the loop over ways knows: the first n of them are as they must be. -/
structure WyI (c : CoM) (F T : Nat) (hs0 hs : List Int) (u0 i : Nat) (m : Bool) (h : Int) (l : List (Nat × Int)) (n : Nat) : Prop where
  scn : Scn c F T hs0 hs u0 i m
  cur : hAt hs i = h
  ok : ∀ q ∈ l.take n, q.1 < T ∧ q.2 ≤ 200 ∧ hAt hs q.1 = q.2
theorem WyI.step {c : CoM} {F T : Nat} {hs0 hs : List Int} {u0 i : Nat} {m : Bool} {h : Int} {l : List (Nat × Int)} {n : Nat} (hI : WyI c F T hs0 hs u0 i m h l n) (hn : n < l.length) (h1 : l[n].1 < T) (h2 : l[n].2 ≤ 200) (h3 : hAt hs l[n].1 = l[n].2) : WyI c F T hs0 hs u0 i m h l (n + 1) :=
  ⟨hI.scn, hI.cur, fun q hq => by
    rw [List.take_succ_eq_append_getElem hn] at hq
    rcases List.mem_append.1 hq with hq | hq
    · exact hI.ok q hq
    · rw [List.mem_singleton.1 hq]; exact ⟨h1, h2, h3⟩⟩
theorem WyI.put {c : CoM} {F T : Nat} {hs0 hs : List Int} {u0 i : Nat} {m : Bool} {h : Int} {l : List (Nat × Int)} {n : Nat} (hI : WyI c F T hs0 hs u0 i m h l n) (hn : n < l.length) (hT : T ≤ c.is.length) (hF : F ≤ l[n].1) (h0 : 0 ≤ l[n].2) (hi : 0 ≤ h) (hq0 : ∀ q ∈ l, 0 ≤ q.2)
    (hm : Met c F i h) (ht : takesM c (insAt c i) ≤ h) (hq : l[n] ∈ nexts c i (insAt c i) h) (h1 : l[n].1 < T) (h2 : l[n].2 ≤ 200) (h3 : hAt hs l[n].1 < 0) : WyI c F T hs0 (hs.set l[n].1 l[n].2) u0 i true h l (n + 1) := by
  obtain ⟨a1, a2, a3⟩ := hI.scn.put hT hF h0 hm ht hq h1 h2 h3
  refine ⟨a1, ?_, fun q hq2 => ?_⟩
  · rw [a2.2 i (by rw [hI.cur]; omega)]; exact hI.cur
  · rw [List.take_succ_eq_append_getElem hn] at hq2
    rcases List.mem_append.1 hq2 with hq2 | hq2
    · obtain ⟨b1, b2, b3⟩ := hI.ok q hq2
      exact ⟨b1, b2, by rw [a2.2 q.1 (by rw [b3]; have := hq0 q (List.mem_of_mem_take hq2); omega)]; exact b3⟩
    · rw [List.mem_singleton.1 hq2]; exact ⟨h1, h2, a3⟩
theorem WyI.done {c : CoM} {F T : Nat} {hs0 hs : List Int} {u0 i : Nat} {m : Bool} {h : Int} {l : List (Nat × Int)} (hI : WyI c F T hs0 hs u0 i m h l l.length) (hl : l = nexts c i (insAt c i) h) (ht : takesM c (insAt c i) ≤ h) : Scn c F T hs0 hs u0 (i + 1) m :=
  hI.scn.on fun _ => by
    rw [hI.cur]
    refine ⟨ht, fun q hq => ?_⟩
    rw [← hl] at hq
    exact hI.ok q (by rw [List.take_length]; exact hq)

set_option maxRecDepth 100000 in
set_option maxHeartbeats 64000000 in
theorem refHeights_calls (c : CoM) (A A2 : Option Addr) (c1 c2 : Nat) (w : World) (hc : CoAt w w.heap.size A c1 A2 c2 c) (hnm : ∀ p ∈ c.ps, p.name.length ≤ 20000) (hnp : c.ps.length ≤ 100000) (hni : c.is.length ≤ 100000) :
    Calls Tryz.prog 15 #[coV A c1 A2 c2 c] w (RHgP c w) := by
  have hfw := hc.few
  have hcp := hc.capP
  have hci := hc.capI
  unfold maxLen at hfw
  have HC := Lib.hid hc
  have HNM := Lib.hid hnm
  unfold coV
  have HB0 := Lib.hid ((Below.refl w.heap.size w).alloc (Nat.le_refl _) (.cells #[.slice A c.ps.length c1, .slice A2 c.is.length c2] 33))
  have HX := Lib.hid (heapOne w #[.slice A c.ps.length c1, .slice A2 c.is.length c2] 33)
  clear hc hnm
  go_enter Tryz.func15, Tryz.ntmps15
  go_wp2
  generalize w.alloc (.cells #[.slice A c.ps.length c1, .slice A2 c.is.length c2] 33) = W0 at *
  have hsz0 : w.heap.size < W0.heap.size := blkLt HX.out
  go_loopw [4, 23] (fun v i wr => ∃ (k : Nat) (e : Int), k ≤ c.ps.length ∧ i = .int .i64 k ∧ v = .int .i64 e ∧ Hid (PrsI c k e) ∧ Hid (Below W0.heap.size W0 wr)) (fun _ i _ => c.ps.length - (intOf i).toNat)
  case atStart => exact ⟨0, 0, by omega, rfl, rfl, Lib.hid ⟨by rw [List.drop_zero], by omega, by simp⟩, Lib.hid (Below.refl _ _)⟩
  case round =>
    obtain ⟨k, e, hk, rfl, rfl, HR, HB⟩ := hrel
    obtain ⟨wo, rfl⟩ : ∃ x, x = wr := ⟨_, rfl⟩
    have x0 : wo.cell? ⟨w.heap.size, 0, none⟩ = some (.slice A c.ps.length c1) := keepC HB.out (cellC HX.out 0) hsz0
    have x1 : wo.cell? ⟨w.heap.size, 1, none⟩ = some (.slice A2 c.is.length c2) := keepC HB.out (cellC HX.out 1) hsz0
    have x1n := fun o => newC x1 o
    have hszr := HB.out.size
    have he0 := HR.out.nn
    by_cases hlt : k < c.ps.length
    · obtain ⟨b, off, rfl, hb, hcells⟩ := (HC.out.prs) (by omega)
      obtain ⟨q0, q1, q2, q3, q4, q5⟩ := hcells k hlt
      have kk : ∀ {o : Nat} {u : Value}, w.cell? ⟨b, o, none⟩ = some u → wo.cell? ⟨b, o, none⟩ = some u := fun hq => keepC HB.out (keepC HB0.out hq hb) (by omega)
      have q0 := kk q0
      have q1 := kk q1
      have q2 := kk q2
      have q3 := kk q3
      have q4 := kk q4
      have q5 := kk q5
      have HBAD := Lib.hid (bad_pr hlt HR.out.ord he0)
      have HSTP := Lib.hid (HR.out.step hlt)
      have HIN := Lib.hid (fun o => refIsName_calls (c.ps[k]).name (HNM.out _ (List.getElem_mem hlt)) (wo.alloc o))
      have HPK := Lib.hid (show prOk c.ps[k] ↔ (0 ≤ (c.ps[k]).par ∧ (c.ps[k]).par ≤ (c.ps[k]).slo ∧ (c.ps[k]).slo ≤ 64 ∧ ((c.ps[k]).typ = 1 ∨ (c.ps[k]).typ = 4) ∧ isNm (c.ps[k]).name = true) from Iff.rfl)
      generalize prOk c.ps[k] = pk at *
      generalize hPK : c.ps[k] = p at *
      clear hPK
      generalize isNm p.name = q at *
      have hk0 : (0 : Int) ≤ (k : Int) := by omega
      have hk1 : (k : Int) < (c.ps.length : Int) := by omega
      have HBA := Lib.hid (fun o => HB.out.alloc HB.out.size o)
      clear kk hcells
      cases q
      · go_wp2_with (go_at_call 26; refine (HIN.out _).mono ?_; rintro e w1 ⟨rfl, hB1⟩; have HB1 := Lib.hid ((HBA.out _).trans (hB1.mono (by simp; omega))); clear hB1)
        all_goals
          go_ret2
          first
            | exact ⟨HB0.out.trans ((HBA.out _).mono (by omega)), .inr ⟨HBAD.out (fun h => by omega), rfl⟩⟩
            | exact ⟨HB0.out.trans (HB1.out.mono (by omega)), .inr ⟨HBAD.out (fun h => (by cases h.2.2.2.2.2.2.2)), rfl⟩⟩
      · go_wp2_with (go_at_call 26; refine (HIN.out _).mono ?_; rintro e w1 ⟨rfl, hB1⟩; have HB1 := Lib.hid ((HBA.out _).trans (hB1.mono (by simp; omega))); have PB := Lib.hid ((hB1.block wo.heap.size (by simp)).trans (heapOne wo _ _)); have p2 : w1.cell? ⟨wo.heap.size, 2, none⟩ = some (.int .i64 p.to) := cellC PB.out 2; clear hB1)
        all_goals first
          | (go_ret2
             exact ⟨HB0.out.trans ((HBA.out _).mono (by omega)), .inr ⟨HBAD.out (fun h => by omega), rfl⟩⟩)
          | (go_roundw
             case rel => exact ⟨k + 1, p.to, by omega, by go_num, rfl, Lib.hid (HSTP.out (by omega) (by omega) (HPK.out.2 ⟨by omega, by omega, by omega, by omega, by trivial⟩)), HB1⟩
             case measure => simp [intOf]; omega)
    · obtain rfl : k = c.ps.length := by omega
      have hle : c.ps.length = 0 ∨ 0 < c.ps.length := by omega
      have HE0 : Hid (c.ps.length = 0 → ¬ GoodC c) := Lib.hid (fun h0 hg => hg.1.1.1 (List.length_eq_zero_iff.1 h0))
      have HE1 : Hid (ordB 0 c.ps = some e) := Lib.hid (by rw [HR.out.ord, List.drop_length]; rfl)
      have HOK : Hid (∀ p ∈ c.ps, prOk p) := Lib.hid (by have := HR.out.ok; rwa [List.take_length] at this)
      clear hlt hk HR he0
      by_cases hz : c.ps.length = 0
      · have hb := HE0.out hz
        have HBD := Lib.hid hb
        have z1 : ((c.ps.length : Int) == 0) = true := beq_iff_eq.2 (by omega)
        have z2 : (c.ps.length == 0) = true := beq_iff_eq.2 hz
        clear hz hb hle x1n
        go_wp2
        go_ret2
        exact ⟨HB0.out.trans (HB.out.mono (by omega)), .inr ⟨HBD.out, rfl⟩⟩
      have z1 : ((c.ps.length : Int) == 0) = false := beq_eq_false_iff_ne.2 (by omega)
      have z2 : (c.ps.length == 0) = false := beq_eq_false_iff_ne.2 hz
      by_cases hen : e = (c.is.length : Int)
      rotate_left 1
      · have HBD : Hid (¬ GoodC c) := Lib.hid (fun hg => by have h1 := hg.1.1.2; rw [HE1.out] at h1; exact hen (Option.some.inj h1))
        have z3 : (e == (c.is.length : Int)) = false := beq_eq_false_iff_ne.2 hen
        have z4 : (e != (c.is.length : Int)) = true := by simp [bne, z3]
        clear hz hle x1n hen
        go_wp2
        go_ret2
        exact ⟨HB0.out.trans (HB.out.mono (by omega)), .inr ⟨HBD.out, rfl⟩⟩
      subst hen
      have HORD : Hid (ordC c) := Lib.hid ⟨fun h => hz (by rw [h]; rfl), HE1.out⟩
      have hmk : Sem.run Tryz.prog (Instr.makeSlice 52 (.int .i64 (c.is.length : Int)) (.int .i64 (c.is.length : Int))) wo = .ok (.slice (some ⟨wo.heap.size, 0, none⟩) c.is.length c.is.length) (wo.alloc (.cells (intsL (List.replicate c.is.length 0)).toArray 3)) := by
        rw [← made_rep]
        exact run_make_row' _ _ _ _ Tryz.underlying52 Tryz.infoInt rfl _ _ _ (by omega) (by omega) _
      have z3 : ((c.is.length : Int) == (c.is.length : Int)) = true := beq_self_eq_true _
      have z4 : ((c.is.length : Int) != (c.is.length : Int)) = false := by simp
      clear HE0 HE1 hle x1n hz
      go_wp2_with fail
      obtain ⟨gH, hgH⟩ : ∃ gH, gH = wo.heap.size := ⟨_, rfl⟩
      have HGH := Lib.hid hgH
      have HA0 := Lib.hid (heapOne wo (intsL (List.replicate c.is.length 0)).toArray 3)
      have HW2 := Lib.hid ((HB0.out.trans (HB.out.mono (by omega))).alloc (by omega) (.cells (intsL (List.replicate c.is.length 0)).toArray 3))
      have HX2 := Lib.hid ((Below.heap_alloc wo (.cells (intsL (List.replicate c.is.length 0)).toArray 3) w.heap.size (by omega)).trans ((HB.out.block w.heap.size hsz0).trans HX.out))
      have hgw : w.heap.size < gH := by omega
      rw [← hgH] at HA0 ⊢
      clear hgH hmk x0 x1 z1 z2 z3 z4
      generalize wo.alloc (.cells (intsL (List.replicate c.is.length 0)).toArray 3) = W2 at *
      go_loopw [102] (fun i wr => ∃ (j : Nat), j ≤ c.is.length ∧ i = .int .i64 j ∧ Hid (wr.heap[gH]? = some (.cells (intsL (fillM j c.is.length)).toArray 3 (0, 0))) ∧ Hid (Below gH W2 wr)) (fun i _ => c.is.length - (intOf i).toNat)
      case atStart => exact ⟨0, by omega, rfl, Lib.hid (by rw [fillM_zero]; exact HA0.out), Lib.hid (Below.refl _ _)⟩
      case round =>
        obtain ⟨j, hj, rfl, HF, HBF⟩ := hrel
        by_cases hlt : j < c.is.length
        · have ff : ∀ o, wr.frozen? ⟨gH, o, none⟩ = false := fun o => by simp [World.frozen?, HF.out]
          have fc : wr.cell? ⟨gH, j, none⟩ = some (.int .i64 0) := fillM_cell HF.out hlt
          have hj0 : (0 : Int) ≤ (j : Int) := by omega
          have hj1 : (j : Int) < (c.is.length : Int) := by omega
          have HS := Lib.hid (setAt wr gH j (.int .i64 (-1)) _ _ _ HF.out)
          have ff := ff j
          go_wp2
          go_roundw
          case rel => exact ⟨j + 1, by omega, by go_num, Lib.hid (by rw [← fillM_set hlt]; exact HS.out), Lib.hid (HBF.out.setCell (p := ⟨gH, j, none⟩) (Nat.le_refl _) _)⟩
          case measure => simp [intOf]; omega
        · obtain rfl : j = c.is.length := by omega
          rw [fillM_all] at HF
          obtain ⟨W3, hW3⟩ : ∃ x, x = wr := ⟨_, rfl⟩
          subst hW3
          have HX3 := Lib.hid ((HBF.out.block w.heap.size hgw).trans HX2.out)
          have HW3 := Lib.hid (HW2.out.trans (HBF.out.mono (by omega)))
          have hg3 : gH < W3.heap.size := blkLt HF.out
          clear hlt hj HBF HX2 HW2
          have x0 : W3.cell? ⟨w.heap.size, 0, none⟩ = some (.slice A c.ps.length c1) := cellC HX3.out 0
          have x1 : W3.cell? ⟨w.heap.size, 1, none⟩ = some (.slice A2 c.is.length c2) := cellC HX3.out 1
          go_wp2_with fail
          go_loopw [112] (fun i wr => ∃ (k : Nat), k ≤ c.ps.length ∧ i = .int .i64 k ∧ Hid (∀ p ∈ c.ps.take k, ∀ x ∈ body c p, inOk p c.ps.length x) ∧ Hid (Below W3.heap.size W3 wr)) (fun i _ => c.ps.length - (intOf i).toNat)
          case atStart => exact ⟨0, by omega, rfl, Lib.hid (by simp), Lib.hid (Below.refl _ _)⟩
          case round =>
            clear x0 x1
            obtain ⟨k, hk, rfl, HI, HB3⟩ := hrel
            obtain ⟨wo, rfl⟩ : ∃ x, x = wr := ⟨_, rfl⟩
            have x0 : wo.cell? ⟨w.heap.size, 0, none⟩ = some (.slice A c.ps.length c1) := keepC HB3.out (cellC HX3.out 0) (by omega)
            have x1 : wo.cell? ⟨w.heap.size, 1, none⟩ = some (.slice A2 c.is.length c2) := keepC HB3.out (cellC HX3.out 1) (by omega)
            have hszr := HB3.out.size
            by_cases hlt : k < c.ps.length
            · obtain ⟨b, off, rfl, hb, hcells⟩ := (HC.out.prs) (by omega)
              obtain ⟨q0, q1, q2, q3, q4, q5⟩ := hcells k hlt
              have kk : ∀ {o : Nat} {u : Value}, w.cell? ⟨b, o, none⟩ = some u → wo.cell? ⟨b, o, none⟩ = some u := fun hq => keepC HB3.out (keepC HW3.out hq hb) (by omega)
              have q0 := kk q0
              have q1 := kk q1
              have q2 := kk q2
              have q3 := kk q3
              have q4 := kk q4
              have q5 := kk q5
              obtain ⟨r1, r2, r3, r4⟩ := HORD.out.range (List.getElem_mem hlt)
              have HTK := Lib.hid (List.take_succ_eq_append_getElem hlt)
              have HPM : Hid (c.ps[k] ∈ c.ps) := Lib.hid (List.getElem_mem hlt)
              have hpt := (HOK.out _ HPM.out).2.2.2.1
              generalize c.ps[k] = p at *
              generalize hF : p.frm.toNat = F at *
              generalize hT : p.to.toNat = T at *
              have HBG := Lib.hid (body_get r1 r2 r4 (by omega))
              rw [r1] at q1
              rw [r2] at q2
              have HFT := Lib.hid (fun (x : InM) W => refFits_calls c (some ⟨b, off, none⟩) A2 c1 c2 p x W hpt)
              unfold prV coV inV at HFT
              rw [r1, r2] at HFT
              have hk0 : (0 : Int) ≤ (k : Int) := by omega
              have hk1 : (k : Int) < (c.ps.length : Int) := by omega
              have PB0 := Lib.hid (heapOne wo #[.string (bs p.name), .int .i64 (F : Int), .int .i64 (T : Int), .int .i64 p.par, .int .i64 p.slo, .int .i64 p.typ] 51)
              have HBA := Lib.hid (HB3.out.alloc hszr (.cells #[.string (bs p.name), .int .i64 (F : Int), .int .i64 (T : Int), .int .i64 p.par, .int .i64 p.slo, .int .i64 p.typ] 51))
              have p1n : ∀ o : Nat, True := fun _ => trivial
              clear kk hcells r1 r2 hF hT hpt p1n
              go_wp2_with fail
              obtain ⟨pb, hpb⟩ : ∃ pb, pb = wo.heap.size := ⟨_, rfl⟩
              rw [← hpb] at PB0 ⊢
              have hpbw : w.heap.size < pb := by omega
              clear hpb x0 x1 q0 q1 q2 q3 q4 q5
              have HX4 := Lib.hid ((Below.heap_alloc wo (.cells #[.string (bs p.name), .int .i64 (F : Int), .int .i64 (T : Int), .int .i64 p.par, .int .i64 p.slo, .int .i64 p.typ] 51) w.heap.size (by omega)).trans ((HB3.out.block w.heap.size (by omega)).trans HX3.out))
              generalize wo.alloc (.cells #[.string (bs p.name), .int .i64 (F : Int), .int .i64 (T : Int), .int .i64 p.par, .int .i64 p.slo, .int .i64 p.typ] 51) = W4 at *
              have hpl : pb < W4.heap.size := blkLt PB0.out
              have HB4 := Lib.hid (HW3.out.trans (HBA.out.mono (by omega)))
              have hsz4 := HBA.out.size
              have HB3S := HBA
              clear HBA HB3
              obtain ⟨b2, off2, rfl, hb2, hcells2⟩ := (HC.out.ins) (by omega)
              have HC2 := Lib.hid hcells2
              clear hcells2
              go_loopw [11] (fun v wr => ∃ (j : Nat), F ≤ j ∧ j ≤ T ∧ v = .int .i64 j ∧ Hid (∀ x ∈ (body c p).take (j - F), inOk p c.ps.length x) ∧ Hid (Below W4.heap.size W4 wr)) (fun v _ => T - (intOf v).toNat)
              case atStart => exact ⟨F, by omega, by omega, rfl, Lib.hid (by simp), Lib.hid (Below.refl _ _)⟩
              case round =>
                obtain ⟨j, hFj, hj, rfl, HJ, HBJ⟩ := hrel
                have x0 : wr.cell? ⟨w.heap.size, 0, none⟩ = some (.slice (some ⟨b, off, none⟩) c.ps.length c1) := keepC HBJ.out (cellC HX4.out 0) (by omega)
                have x1 : wr.cell? ⟨w.heap.size, 1, none⟩ = some (.slice (some ⟨b2, off2, none⟩) c.is.length c2) := keepC HBJ.out (cellC HX4.out 1) (by omega)
                have PBJ := Lib.hid ((HBJ.out.block pb hpl).trans PB0.out)
                have p2 : wr.cell? ⟨pb, 2, none⟩ = some (.int .i64 (T : Int)) := cellC PBJ.out 2
                have hszj := HBJ.out.size
                by_cases hjt : j < T
                · have hjl : j < c.is.length := by omega
                  obtain ⟨hbl, hbg⟩ := HBG.out
                  have hbj := hbg (j - F) (by omega) (by omega)
                  have ej : F + (j - F) = j := by omega
                  have hxm : c.is[j] ∈ body c p := by
                    have h1 : (body c p)[j - F] = c.is[j] := by rw [hbj]; congr 1
                    rw [← h1]; exact List.getElem_mem _
                  have HSTJ : Hid (inOk p c.ps.length c.is[j] → ∀ x ∈ (body c p).take (j + 1 - F), inOk p c.ps.length x) := Lib.hid (fun hin x hx => by
                    rw [show j + 1 - F = (j - F) + 1 by omega, List.take_succ_eq_append_getElem (by omega)] at hx
                    rcases List.mem_append.1 hx with hx | hx
                    · exact HJ.out x hx
                    · have h1 : (body c p)[j - F] = c.is[j] := by rw [hbj]; congr 1
                      rw [List.mem_singleton.1 hx, h1]; exact hin)
                  have HBADI : Hid (¬ inOk p c.ps.length c.is[j] → ¬ GoodC c) := Lib.hid (fun hn hg => hn ((hg.1.2 _ HPM.out).2 _ hxm))
                  obtain ⟨y0, y1, y2⟩ := HC2.out j hjl
                  have HWJ := Lib.hid (HB4.out.trans (HBJ.out.mono (by omega)))
                  have y0 := keepC HWJ.out y0 hb2
                  have y1 := keepC HWJ.out y1 hb2
                  have y2 := keepC HWJ.out y2 hb2
                  have HFX := Lib.hid (fun W => HFT.out c.is[j] W)
                  generalize c.is[j] = x at *
                  have hj0 : (0 : Int) ≤ (j : Int) := by omega
                  have hj1 : (j : Int) < (c.is.length : Int) := by omega
                  have hj2 : (j : Int) < (T : Int) := by omega
                  have hb2l : b2 < wr.heap.size := by omega
                  clear hbl hbg hbj ej hxm
                  go_wp2_with fail
                  have d0 : wr.drew.cell? ⟨w.heap.size, 0, none⟩ = some (.slice (some ⟨b, off, none⟩) c.ps.length c1) := x0
                  have d1 : wr.drew.cell? ⟨w.heap.size, 1, none⟩ = some (.slice (some ⟨b2, off2, none⟩) c.is.length c2) := x1
                  have e0 : wr.drew.cell? ⟨pb, 0, none⟩ = some (.string (bs p.name)) := cellC PBJ.out 0
                  have e1 : wr.drew.cell? ⟨pb, 1, none⟩ = some (.int .i64 (F : Int)) := cellC PBJ.out 1
                  have e2 : wr.drew.cell? ⟨pb, 2, none⟩ = some (.int .i64 (T : Int)) := cellC PBJ.out 2
                  have e3 : wr.drew.cell? ⟨pb, 3, none⟩ = some (.int .i64 p.par) := cellC PBJ.out 3
                  have e4 : wr.drew.cell? ⟨pb, 4, none⟩ = some (.int .i64 p.slo) := cellC PBJ.out 4
                  have e5 : wr.drew.cell? ⟨pb, 5, none⟩ = some (.int .i64 p.typ) := cellC PBJ.out 5
                  have f0 : wr.drew.cell? ⟨b2, off2 + j * 3, none⟩ = some (.int .i64 x.op) := y0
                  have f1 : wr.drew.cell? ⟨b2, off2 + j * 3 + 1, none⟩ = some (.int .i64 x.arg) := y1
                  have f2 : wr.drew.cell? ⟨b2, off2 + j * 3 + 2, none⟩ = some (.int .i64 x.mor) := y2
                  go_region_held3 (fun w' => w'.cell? ⟨w.heap.size, 0, none⟩ = some (.slice (some ⟨b, off, none⟩) c.ps.length c1) ∧ w'.cell? ⟨w.heap.size, 1, none⟩ = some (.slice (some ⟨b2, off2, none⟩) c.is.length c2) ∧ w'.cell? ⟨pb, 0, none⟩ = some (.string (bs p.name)) ∧ w'.cell? ⟨pb, 1, none⟩ = some (.int .i64 (F : Int)) ∧ w'.cell? ⟨pb, 2, none⟩ = some (.int .i64 (T : Int)) ∧ w'.cell? ⟨pb, 3, none⟩ = some (.int .i64 p.par) ∧ w'.cell? ⟨pb, 4, none⟩ = some (.int .i64 p.slo) ∧ w'.cell? ⟨pb, 5, none⟩ = some (.int .i64 p.typ) ∧ w'.cell? ⟨b2, off2 + j * 3, none⟩ = some (.int .i64 x.op) ∧ w'.cell? ⟨b2, off2 + j * 3 + 1, none⟩ = some (.int .i64 x.arg) ∧ w'.cell? ⟨b2, off2 + j * 3 + 2, none⟩ = some (.int .i64 x.mor))
                    (with_reducible exact ⟨d0, d1, e0, e1, e2, e3, e4, e5, f0, f1, f2⟩)
                    (first | fail | (go_at_call 30; ((with_reducible refine (HFX.out _).mono ?_); rintro e w5 ⟨⟨bq, rfl, hiff⟩, hB5⟩; have HIF := Lib.hid hiff; have d0 := keepC hB5 d0 (by show w.heap.size < wr.heap.size; omega); have d1 := keepC hB5 d1 (by show w.heap.size < wr.heap.size; omega); have e0 := keepC hB5 e0 (by show pb < wr.heap.size; omega); have e1 := keepC hB5 e1 (by show pb < wr.heap.size; omega); have e2 := keepC hB5 e2 (by show pb < wr.heap.size; omega); have e3 := keepC hB5 e3 (by show pb < wr.heap.size; omega); have e4 := keepC hB5 e4 (by show pb < wr.heap.size; omega); have e5 := keepC hB5 e5 (by show pb < wr.heap.size; omega); have f0 := keepC hB5 f0 (by show b2 < wr.heap.size; omega); have f1 := keepC hB5 f1 (by show b2 < wr.heap.size; omega); have f2 := keepC hB5 f2 (by show b2 < wr.heap.size; omega); have HB5 := Lib.hid (HBJ.out.trans ((below_undrew hB5).mono hszj)); clear hB5 hiff)))
                  clear HFX HFT x0 x1 y0 y1 y2 d0 d1 e0 e1 e3 e4 e5 f0 f1 f2
                  have hsz5 := HB5.out.size
                  cases bq
                  · have HBD := Lib.hid (HBADI.out (fun h => by have := HIF.out.2 h; cases this))
                    clear HIF HBADI HSTJ
                    go_wp2
                    go_ret2
                    exact ⟨HB4.out.trans (HB5.out.mono (by omega)), .inr ⟨HBD.out, rfl⟩⟩
                  · have HIN := Lib.hid (HSTJ.out (HIF.out.1 rfl))
                    clear HIF HBADI HSTJ
                    go_wp2
                    go_roundw
                    case rel => exact ⟨j + 1, by omega, by omega, by go_num, HIN, HB5⟩
                    case measure => simp [intOf]; omega
                · obtain rfl : j = T := by omega
                  have HAL : Hid (∀ x ∈ body c p, inOk p c.ps.length x) := Lib.hid (by
                    have := HJ.out
                    rwa [List.take_of_length_le (by rw [HBG.out.1]; exact Nat.le_refl _)] at this)
                  clear hjt hj
                  go_wp2
                  go_roundw
                  case rel => exact ⟨k + 1, by omega, by go_num, Lib.hid (by
                    intro q hq
                    rw [HTK.out] at hq
                    rcases List.mem_append.1 hq with hq | hq
                    · exact HI.out q hq
                    · rw [List.mem_singleton.1 hq]; exact HAL.out), Lib.hid (HB3S.out.trans (HBJ.out.mono (by omega)))⟩
                  case measure => simp [intOf]; omega
            · obtain rfl : k = c.ps.length := by omega
              have HST : Hid (StOk c) := Lib.hid ⟨HORD.out, fun p hp => ⟨HOK.out p hp, by have := HI.out; rw [List.take_length] at this; exact this p hp⟩⟩
              have HH3 := Lib.hid ((HB3.out.block gH hg3).trans HF.out)
              have HW5 := Lib.hid (HW3.out.trans (HB3.out.mono (by omega)))
              have HX5 := Lib.hid ((HB3.out.block w.heap.size (by omega)).trans HX3.out)
              clear hlt hk HI HB3 HX3 HW3 HF HORD HOK
              have hg5 : gH < wo.heap.size := blkLt HH3.out
              go_wp2_with fail
              go_loopw [141] (fun i wr => ∃ (k : Nat) (hs : List Int), k ≤ c.ps.length ∧ i = .int .i64 k ∧ Hid (Upto c hs k) ∧ Hid (wr.heap[gH]? = some (.cells (intsL hs).toArray 3 (0, 0))) ∧ Hid (Below gH wo wr)) (fun i _ => c.ps.length - (intOf i).toNat)
              case atStart => exact ⟨0, _, by omega, rfl, Lib.hid (Upto.zero c), HH3, Lib.hid (Below.refl _ _)⟩
              case round =>
                clear x0 x1
                obtain ⟨k, hs, hk, rfl, HU, HH, HB5⟩ := hrel
                obtain ⟨wp, rfl⟩ : ∃ x, x = wr := ⟨_, rfl⟩
                have x0 : wp.cell? ⟨w.heap.size, 0, none⟩ = some (.slice A c.ps.length c1) := keepC HB5.out (cellC HX5.out 0) hgw
                have x1 : wp.cell? ⟨w.heap.size, 1, none⟩ = some (.slice A2 c.is.length c2) := keepC HB5.out (cellC HX5.out 1) hgw
                have hgp : gH < wp.heap.size := blkLt HH.out
                have hlen := HU.out.len
                by_cases hlt : k < c.ps.length
                · obtain ⟨b, off, rfl, hb, hcells⟩ := (HC.out.prs) (by omega)
                  obtain ⟨q0, q1, q2, q3, q4, q5⟩ := hcells k hlt
                  have HWp := Lib.hid (HW5.out.trans (HB5.out.mono (by omega)))
                  have kk : ∀ {o : Nat} {u : Value}, w.cell? ⟨b, o, none⟩ = some u → wp.cell? ⟨b, o, none⟩ = some u := fun hq => keepC HWp.out hq hb
                  have q0 := kk q0
                  have q1 := kk q1
                  have q2 := kk q2
                  have q3 := kk q3
                  have q4 := kk q4
                  have q5 := kk q5
                  obtain ⟨r1, r2, r3, r4⟩ := HST.out.1.range (List.getElem_mem hlt)
                  have HWR := Lib.hid (fun hw => wrong_bad HST.out hlt hw)
                  have HUS := Lib.hid (fun hs' h1 h2 h3 => HU.out.step (hs' := hs') HST.out hlt h1 h2 h3)
                  have HUN := Lib.hid (HU.out.no k hlt (Nat.le_refl _))
                  have HPM : Hid (c.ps[k] ∈ c.ps) := Lib.hid (List.getElem_mem hlt)
                  have HBO := Lib.hid ((HST.out.2 _ HPM.out).2)
                  generalize c.ps[k] = p at *
                  generalize hF : p.frm.toNat = F at *
                  generalize hT : p.to.toNat = T at *
                  have HRG := Lib.hid (show p.frm = (F : Int) ∧ p.to = (T : Int) from ⟨r1, r2⟩)
                  rw [r1] at q1
                  rw [r2] at q2
                  have hk0 : (0 : Int) ≤ (k : Int) := by omega
                  have hk1 : (k : Int) < (c.ps.length : Int) := by omega
                  have hF0 : (0 : Int) ≤ (F : Int) := by omega
                  have hF1 : (F : Int) < (c.is.length : Int) := by omega
                  have PB0 := Lib.hid (heapOne wp #[.string (bs p.name), .int .i64 (F : Int), .int .i64 (T : Int), .int .i64 p.par, .int .i64 p.slo, .int .i64 p.typ] 51)
                  have HHa := Lib.hid ((Below.heap_alloc wp (.cells #[.string (bs p.name), .int .i64 (F : Int), .int .i64 (T : Int), .int .i64 p.par, .int .i64 p.slo, .int .i64 p.typ] 51) gH hgp).trans HH.out)
                  have HBa := Lib.hid (HB5.out.alloc (by omega) (.cells #[.string (bs p.name), .int .i64 (F : Int), .int .i64 (T : Int), .int .i64 p.par, .int .i64 p.slo, .int .i64 p.typ] 51))
                  have HSC := Lib.hid (scn_start (c := c) r3 r4 hlen HUN.out)
                  clear kk hcells r1 r2 hF hT HU HUN
                  go_upto_region 32 with (fail)
                  generalize wp.alloc (.cells #[.string (bs p.name), .int .i64 (F : Int), .int .i64 (T : Int), .int .i64 p.par, .int .i64 p.slo, .int .i64 p.typ] 51) = W6 at *
                  obtain ⟨pb, hpb⟩ : ∃ pb, pb = wp.heap.size := ⟨_, rfl⟩
                  rw [← hpb] at PB0 ⊢
                  have hgpb : gH < pb := by omega
                  clear hpb x0 x1 q0 q1 q2 q3 q4 q5
                  have h1 : W6.cell? ⟨gH, F, none⟩ = some (.int .i64 (hAt hs F)) := hsAt HHa.out F (by omega)
                  have hfz : W6.frozen? ⟨gH, F, none⟩ = false := by simp [World.frozen?, HHa.out]
                  have p1 : W6.cell? ⟨pb, 1, none⟩ = some (.int .i64 (F : Int)) := cellC PB0.out 1
                  have HS0 := Lib.hid (setAt W6 gH F (.int .i64 0) _ _ _ HHa.out)
                  have HBs := Lib.hid (HBa.out.setCell (p := ⟨gH, F, none⟩) (Nat.le_refl _) (.int .i64 0))
                  have HPs := Lib.hid ((setNe W6 gH F (.int .i64 0) pb (by omega)).trans PB0.out)
                  go_wp2_with fail
                  obtain ⟨W7, hW7⟩ : ∃ x, x = W6.setCell ⟨gH, F, none⟩ (.int .i64 0) := ⟨_, rfl⟩
                  rw [← hW7] at HS0 HBs HPs ⊢
                  rw [intsL_set] at HS0
                  clear hW7 h1 hfz p1 HHa HBa PB0
                  have HLN := Lib.hid hlen
                  go_loopg [14] (unset (hs.set F 0) + 1) (fun gk v wr => ∃ (m : Bool) (hs' : List Int), v = .bool m ∧ (m = true → unset hs' + 1 ≤ gk) ∧ Hid (∃ u, Scn c F T hs hs' u (if m then F else T) false) ∧ Hid (wr.heap[gH]? = some (.cells (intsL hs').toArray 3 (0, 0))) ∧ Hid (Below gH wo wr) ∧ Hid (wr.heap[pb]? = some (.cells #[.string (bs p.name), .int .i64 (F : Int), .int .i64 (T : Int), .int .i64 p.par, .int .i64 p.slo, .int .i64 p.typ] 51 (0, 0))))
                  case atStart => exact ⟨true, _, rfl, fun _ => Nat.le_refl _, Lib.hid ⟨_, HSC.out⟩, HS0, HBs, HPs⟩
                  case round =>
                    obtain ⟨m, hs', rfl, hgk, HSN, HHr, HBr, HPr⟩ := hrel
                    cases m with
                    | false =>
                      have HSF := Lib.hid (show ∃ u, Scn c F T hs hs' u T false from HSN.out)
                      clear HSN hgk
                      obtain ⟨u, hsn⟩ := HSF.out
                      have HUP := Lib.hid (HUS.out hs' hsn.len hsn.out hsn.hts)
                      clear hsn
                      go_wp2
                      go_roundw
                      case rel => exact ⟨k + 1, hs', by omega, by go_num, HUP, HHr, HBr⟩
                      case measure => simp [intOf]; omega
                    | true =>
                      obtain ⟨u, hsn⟩ := HSN.out
                      have HAG := Lib.hid (hsn.again)
                      have hgk := hgk rfl
                      clear hsn HSN
                      have p1 : wr.cell? ⟨pb, 1, none⟩ = some (.int .i64 (F : Int)) := cellC HPr.out 1
                      go_wp2_with fail
                      obtain ⟨wm, rfl⟩ : ∃ x, x = wr := ⟨_, rfl⟩
                      go_loopw [14, 15] (fun mv iv wr => ∃ (m' : Bool) (j : Nat) (hs2 : List Int), mv = .bool m' ∧ iv = .int .i64 j ∧ F ≤ j ∧ j ≤ T ∧ Hid (Scn c F T hs hs2 (unset hs') j m') ∧ Hid (wr.heap[gH]? = some (.cells (intsL hs2).toArray 3 (0, 0))) ∧ Hid (Below gH wo wr) ∧ Hid (wr.heap[pb]? = some (.cells #[.string (bs p.name), .int .i64 (F : Int), .int .i64 (T : Int), .int .i64 p.par, .int .i64 p.slo, .int .i64 p.typ] 51 (0, 0)))) (fun _ iv _ => T - (intOf iv).toNat)
                      case atStart => exact ⟨false, F, hs', rfl, rfl, by omega, by omega, HAG, HHr, HBr, HPr⟩
                      case round =>
                        clear p1 HAG HHr HBr HPr
                        obtain ⟨m', j, hs2, rfl, rfl, hFj, hjT, HSJ, HHr, HBr, HPr⟩ := hrel
                        obtain ⟨wj, rfl⟩ : ∃ x, x = wr := ⟨_, rfl⟩
                        have p2 : wj.cell? ⟨pb, 2, none⟩ = some (.int .i64 (T : Int)) := cellC HPr.out 2
                        have hl2 := HSJ.out.len
                        by_cases hlt : j < T
                        · have hjl : j < c.is.length := by omega
                          have hin : inOk p c.ps.length c.is[j] := by
                            rw [← insAt_get hjl]
                            exact HBO.out _ (ins_body HRG.out.1 HRG.out.2 r4 hFj hlt)
                          have hv0 := (HSJ.out.met j hFj hlt)
                          have hcl := hsAt HHr.out j (by omega)
                          have hj0 : (0 : Int) ≤ (j : Int) := by omega
                          have hj1 : (j : Int) < (c.is.length : Int) := by omega
                          have hj2 : (j : Int) < (T : Int) := by omega
                          by_cases hneg : hAt hs2 j < 0
                          · have HON := Lib.hid (HSJ.out.on (fun h => by omega))
                            have d1 : decide (hAt hs2 j < 0) = true := decide_eq_true hneg
                            generalize hAt hs2 j = hv at *
                            clear hin hv0 hneg
                            go_wp2
                            go_roundw
                            case rel => exact ⟨m', j + 1, hs2, rfl, by go_num, by omega, by omega, HON, HHr, HBr, HPr⟩
                            case measure => simp [intOf]; omega
                          · have d1 : decide (hAt hs2 j < 0) = false := decide_eq_false hneg
                            have hv1 : 0 ≤ hAt hs2 j ∧ hAt hs2 j ≤ 200 := by rcases hv0.1 with h | h <;> omega
                            have HMET := Lib.hid (hv0.2 hv1.1)
                            have htk := takesM_bd HST.out hin
                            obtain ⟨b2, off2, rfl, hb2, hcells2⟩ := (HC.out.ins) (by omega)
                            obtain ⟨y0, y1, y2⟩ := hcells2 j hjl
                            have HWj := Lib.hid (HW5.out.trans (HBr.out.mono (by omega)))
                            have HTK := Lib.hid (fun W (hW : Below w.heap.size w W) => refTakes_calls c (some ⟨b, off, none⟩) (some ⟨b2, off2, none⟩) c1 c2 p c.is[j] W ((HC.out.below hW (Nat.le_refl _)).wide hW.size).prs hin)
                            have HAF := Lib.hid (fun W (hW : Below w.heap.size w W) => refAfter_calls c (some ⟨b, off, none⟩) (some ⟨b2, off2, none⟩) c1 c2 p j (hAt hs2 j) W ((HC.out.below hW (Nat.le_refl _)).wide hW.size) hjl hin (by have := HRG.out.1; omega) (by omega) (by omega))
                            have HGE := Lib.hid (fun q (hq : q ∈ nexts c j c.is[j] (hAt hs2 j)) => nexts_ge c F p _ j c.is[j] (hAt hs2 j) HRG.out.1 hin hFj q hq)
                            have HNNt := Lib.hid (fun (ht : takesM c c.is[j] ≤ hAt hs2 j) q (hq : q ∈ nexts c j c.is[j] (hAt hs2 j)) => nexts_nn c j c.is[j] (hAt hs2 j) ht hv1.1 q hq)
                            have HIA := Lib.hid (insAt_get hjl)
                            have HGEl := HGE
                            have HWT := Lib.hid (fun (ht : hAt hs2 j < takesM c c.is[j]) => HWR.out (Wrong.takes HMET.out (by rw [HIA.out]; exact ht)))
                            have HWN := Lib.hid (fun (ht : takesM c c.is[j] ≤ hAt hs2 j) q (hq : q ∈ nexts c j c.is[j] (hAt hs2 j)) hbad => HWR.out (Wrong.next HMET.out (by rw [HIA.out]; exact ht) (by rw [HIA.out]; exact hq) hbad))
                            have HMS := Lib.hid (fun (ht : takesM c c.is[j] ≤ hAt hs2 j) q (hq : q ∈ nexts c j c.is[j] (hAt hs2 j)) => Met.step HMET.out (by rw [HIA.out]; exact ht) (by rw [HIA.out]; exact hq))
                            have HWY0 : Hid (∀ l, WyI c F T hs hs2 (unset hs') j m' (hAt hs2 j) l 0) := Lib.hid fun l => ⟨HSJ.out, rfl, by simp⟩
                            have HDN := Lib.hid (fun (ht : takesM c c.is[j] ≤ hAt hs2 j) hs3 m2 (h : WyI c F T hs hs3 (unset hs') j m2 (hAt hs2 j) (nexts c j c.is[j] (hAt hs2 j)) (nexts c j c.is[j] (hAt hs2 j)).length) => h.done (by rw [HIA.out]) (by rw [HIA.out]; exact ht))
                            have HPUT := Lib.hid (fun (ht : takesM c c.is[j] ≤ hAt hs2 j) hs3 m2 n (h : WyI c F T hs hs3 (unset hs') j m2 (hAt hs2 j) (nexts c j c.is[j] (hAt hs2 j)) n) (hn : n < (nexts c j c.is[j] (hAt hs2 j)).length) hT1 h200 hneg => h.put hn r4 (HGE.out _ (List.getElem_mem hn)) (HNNt.out ht _ (List.getElem_mem hn)) hv1.1 (fun q hq => HNNt.out ht q hq) HMET.out (by rw [HIA.out]; exact ht) (by rw [HIA.out]; exact List.getElem_mem hn) hT1 h200 hneg)
                            have y0 := keepC HWj.out y0 hb2
                            have y1 := keepC HWj.out y1 hb2
                            have y2 := keepC HWj.out y2 hb2
                            have x0 : wj.cell? ⟨w.heap.size, 0, none⟩ = some (.slice (some ⟨b, off, none⟩) c.ps.length c1) := keepC HBr.out (cellC HX5.out 0) hgw
                            have x1 : wj.cell? ⟨w.heap.size, 1, none⟩ = some (.slice (some ⟨b2, off2, none⟩) c.is.length c2) := keepC HBr.out (cellC HX5.out 1) hgw
                            have hgj : gH < wj.heap.size := blkLt HHr.out
                            have hpj : pb < wj.heap.size := blkLt HPr.out
                            have hb2g : b2 < wj.heap.size := by omega
                            unfold coV inV at HTK
                            unfold coV at HAF
                            generalize takesM c c.is[j] = tk at *
                            obtain ⟨l, hle⟩ : ∃ l, l = nexts c j c.is[j] (hAt hs2 j) := ⟨_, rfl⟩
                            rw [← hle] at HGEl HNNt HWN HMS HDN HPUT HAF
                            have hll : l.length ≤ 2 := by rw [hle]; exact nexts_len _ _ _ _
                            clear hle
                            generalize c.is[j] = x at *
                            generalize hAt hs2 j = hv at *
                            clear hcells2 hin hv0 hneg HSJ HGE HIA
                            go_upto_region 40 with (fail)
                            have c0 : wj.drew.cell? ⟨w.heap.size, 0, none⟩ = some (.slice (some ⟨b, off, none⟩) c.ps.length c1) := x0
                            have c1' : wj.drew.cell? ⟨w.heap.size, 1, none⟩ = some (.slice (some ⟨b2, off2, none⟩) c.is.length c2) := x1
                            have g0 : wj.drew.cell? ⟨gH, j, none⟩ = some (.int .i64 hv) := hcl
                            have f0 : wj.drew.cell? ⟨b2, off2 + j * 3, none⟩ = some (.int .i64 x.op) := y0
                            have f1 : wj.drew.cell? ⟨b2, off2 + j * 3 + 1, none⟩ = some (.int .i64 x.arg) := y1
                            have f2 : wj.drew.cell? ⟨b2, off2 + j * 3 + 2, none⟩ = some (.int .i64 x.mor) := y2
                            have HDj : Hid (Below w.heap.size w wj.drew) := Lib.hid (below_drewC HWj.out 1)
                            go_region_held3 (fun w' => w'.cell? ⟨w.heap.size, 0, none⟩ = some (.slice (some ⟨b, off, none⟩) c.ps.length c1) ∧ w'.cell? ⟨w.heap.size, 1, none⟩ = some (.slice (some ⟨b2, off2, none⟩) c.is.length c2) ∧ w'.cell? ⟨gH, j, none⟩ = some (.int .i64 hv) ∧ w'.cell? ⟨b2, off2 + j * 3, none⟩ = some (.int .i64 x.op) ∧ w'.cell? ⟨b2, off2 + j * 3 + 1, none⟩ = some (.int .i64 x.arg) ∧ w'.cell? ⟨b2, off2 + j * 3 + 2, none⟩ = some (.int .i64 x.mor))
                              (with_reducible exact ⟨c0, c1', g0, f0, f1, f2⟩)
                              (first | fail | (go_at_call 31; ((with_reducible refine (HTK.out _ HDj.out).mono ?_); rintro e w6 ⟨rfl, hB6⟩; have c0 := keepC hB6 c0 (by show w.heap.size < wj.heap.size; omega); have c1' := keepC hB6 c1' (by show w.heap.size < wj.heap.size; omega); have g0 := keepC hB6 g0 (by show gH < wj.heap.size; omega); have f0 := keepC hB6 f0 (by show b2 < wj.heap.size; omega); have f1 := keepC hB6 f1 (by show b2 < wj.heap.size; omega); have f2 := keepC hB6 f2 (by show b2 < wj.heap.size; omega); have K6 := Lib.hid (below_undrew hB6); clear hB6)))
                            have HH6 := Lib.hid ((K6.out.block gH hgj).trans HHr.out)
                            have HP6 := Lib.hid ((K6.out.block pb hpj).trans HPr.out)
                            have HB6 := Lib.hid (HBr.out.trans (K6.out.mono (by omega)))
                            have HW6 := Lib.hid (HWj.out.trans (K6.out.mono (by omega)))
                            have hs6 := K6.out.size
                            clear x0 x1 y0 y1 y2 hcl HHr HPr HBr HWj K6 HDj HTK p2 f0 f1 f2
                            by_cases htl : hv < tk
                            · have e1 : (hv < tk) = True := eq_true htl
                              have HBD := Lib.hid (HWT.out htl)
                              clear HWT HWN HMS HWY0 HDN HPUT HNNt HAF e1
                              go_wp2
                              all_goals first
                                | (go_ret2
                                   exact ⟨HW6.out, .inr ⟨HBD.out, rfl⟩⟩)
                                | (exfalso; omega)
                            · have e1 : (hv < tk) = False := eq_false htl
                              have htl2 : tk ≤ hv := by omega
                              have HWN := Lib.hid (HWN.out htl2)
                              have HMS := Lib.hid (HMS.out htl2)
                              have HDN := Lib.hid (HDN.out htl2)
                              have HPUT := Lib.hid (HPUT.out htl2)
                              have HNNt := Lib.hid (HNNt.out htl2)
                              clear HWT htl
                              go_upto_region 42 with (fail)
                              have c0d : w6.drew.cell? ⟨w.heap.size, 0, none⟩ = some (.slice (some ⟨b, off, none⟩) c.ps.length c1) := c0
                              have c1d : w6.drew.cell? ⟨w.heap.size, 1, none⟩ = some (.slice (some ⟨b2, off2, none⟩) c.is.length c2) := c1'
                              have g0d : w6.drew.cell? ⟨gH, j, none⟩ = some (.int .i64 hv) := g0
                              have HD6 : Hid (Below w.heap.size w w6.drew) := Lib.hid (below_drewC HW6.out 1)
                              have hg6 : gH < w6.heap.size := by omega
                              go_region_held3 (fun w' => w'.cell? ⟨w.heap.size, 0, none⟩ = some (.slice (some ⟨b, off, none⟩) c.ps.length c1) ∧ w'.cell? ⟨w.heap.size, 1, none⟩ = some (.slice (some ⟨b2, off2, none⟩) c.is.length c2) ∧ w'.cell? ⟨gH, j, none⟩ = some (.int .i64 hv))
                                (with_reducible exact ⟨c0d, c1d, g0d⟩)
                                (first | fail | (go_at_call 32; ((with_reducible refine (HAF.out _ HD6.out).mono ?_); rintro e w7 ⟨hB7, Al, cl, rfl, hwy, hnew⟩; have c0d := keepC hB7 c0d (by show w.heap.size < w6.heap.size; omega); have c1d := keepC hB7 c1d (by show w.heap.size < w6.heap.size; omega); have g0d := keepC hB7 g0d (by show gH < w6.heap.size; omega); have K7 := Lib.hid (below_undrew hB7); have HWY := Lib.hid hwy; have HNEW : Hid (∀ g, Al = some ⟨g, 0, none⟩ → w6.heap.size ≤ g) := Lib.hid hnew; clear hB7 hwy hnew)))
                              have HH7 := Lib.hid ((K7.out.block gH hg6).trans HH6.out)
                              have HP7 := Lib.hid ((K7.out.block pb (by omega)).trans HP6.out)
                              have HB7 := Lib.hid (HB6.out.trans (K7.out.mono (by omega)))
                              have HW7 := Lib.hid (HW6.out.trans (K7.out.mono (by omega)))
                              have HNG : Hid (∀ g, Al = some ⟨g, 0, none⟩ → g ≠ gH) := Lib.hid (fun g hg e => by have := HNEW.out g hg; omega)
                              clear c0 c1' g0 c0d c1d g0d HH6 HP6 HB6 HD6 HAF K7 HNEW HW6
                              go_wp2_with fail
                              go_loopw [14, 188] (fun mv nv wr => ∃ (m2 : Bool) (n : Nat) (hs3 : List Int), mv = .bool m2 ∧ nv = .int .i64 n ∧ n ≤ l.length ∧ Hid (WyI c F T hs hs3 (unset hs') j m2 hv l n) ∧ Hid (wr.heap[gH]? = some (.cells (intsL hs3).toArray 3 (0, 0))) ∧ Hid (Below gH wo wr) ∧ Hid (wr.heap[pb]? = some (.cells #[.string (bs p.name), .int .i64 (F : Int), .int .i64 (T : Int), .int .i64 p.par, .int .i64 p.slo, .int .i64 p.typ] 51 (0, 0))) ∧ Hid (WaysAt wr Al l)) (fun _ nv _ => l.length - (intOf nv).toNat)
                              case atStart => exact ⟨m', 0, hs2, rfl, rfl, by omega, HWY0.out l, HH7, HB7, HP7, HWY⟩
                              case round =>
                                clear HH7 HB7 HP7 HWY HW7
                                obtain ⟨m2, n, hs3, rfl, rfl, hnl, HWI, HHr, HBr, HPr, HWA⟩ := hrel
                                obtain ⟨wn, rfl⟩ : ∃ x, x = wr := ⟨_, rfl⟩
                                have hl3 := HWI.out.scn.len
                                have HWn := Lib.hid (HW5.out.trans (HBr.out.mono (by omega)))
                                by_cases hnt : n < l.length
                                · obtain ⟨gl, rfl, hgl, hwc⟩ := HWA.out (by omega)
                                  obtain ⟨u0, u1⟩ := hwc n hnt
                                  have hglg := HNG.out gl rfl
                                  have hge := HGEl.out _ (List.getElem_mem hnt)
                                  have hnn := HNNt.out _ (List.getElem_mem hnt)
                                  have HWQ := Lib.hid (HWN.out _ (List.getElem_mem hnt))
                                  have HMQ := Lib.hid (HMS.out _ (List.getElem_mem hnt))
                                  have HSQ := Lib.hid (HWI.out.step hnt)
                                  have HPQ := Lib.hid (HPUT.out hs3 m2 n HWI.out hnt)
                                  have p2 : wn.cell? ⟨pb, 2, none⟩ = some (.int .i64 (T : Int)) := cellC HPr.out 2
                                  have HL2 := Lib.hid hnl
                                  generalize l[n] = q at *
                                  obtain ⟨tq, xv⟩ := q
                                  dsimp only at u0 u1 hge hnn HWQ HMQ HSQ HPQ
                                  have hn0 : (0 : Int) ≤ (n : Int) := by omega
                                  have hn1 : (n : Int) < (l.length : Int) := by omega
                                  clear hwc HNNt HWN HMS HPUT
                                  have HHn := Lib.hid (show ∀ z, (wn.drewN z).heap[gH]? = _ from fun _ => HHr.out)
                                  have HBn := Lib.hid (show ∀ z, Below gH wo (wn.drewN z) from fun z => below_drewC HBr.out z)
                                  have HPn := Lib.hid (show ∀ z, (wn.drewN z).heap[pb]? = _ from fun _ => HPr.out)
                                  have HAn := Lib.hid (show ∀ z, WaysAt (wn.drewN z) (some ⟨gl, 0, none⟩) l from fun _ => HWA.out)
                                  have hszn := HBr.out.size
                                  by_cases hb1 : T ≤ tq
                                  · have HBD := Lib.hid (HWQ.out (.inl hb1))
                                    have d1 : decide ((T : Int) ≤ (tq : Int)) = true := decide_eq_true (by omega)
                                    have d1n : decide (T ≤ tq) = true := decide_eq_true hb1
                                    clear HWQ HMQ HSQ HPQ hb1
                                    go_wp2
                                    go_quiet (fail)
                                    go_wp2
                                    go_ret2
                                    exact ⟨below_drewC HWn.out _, .inr ⟨HBD.out, rfl⟩⟩
                                  have d1 : decide ((T : Int) ≤ (tq : Int)) = false := decide_eq_false (by omega)
                                  have d1n : decide (T ≤ tq) = false := decide_eq_false (by omega)
                                  by_cases hb2 : 200 < xv
                                  · have HBD := Lib.hid (HWQ.out (.inr hb2))
                                    have d2 : decide (200 < xv) = true := decide_eq_true hb2
                                    clear HWQ HMQ HSQ HPQ hb1 hb2
                                    go_wp2
                                    go_quiet (fail)
                                    go_wp2
                                    go_ret2
                                    exact ⟨below_drewC HWn.out _, .inr ⟨HBD.out, rfl⟩⟩
                                  have d2 : decide (200 < xv) = false := decide_eq_false hb2
                                  have t0 : (0 : Int) ≤ (tq : Int) := by omega
                                  have t1 : (tq : Int) < (c.is.length : Int) := by omega
                                  have hct := hsAt HHr.out tq (by omega)
                                  have hmt := (HWI.out.scn.met tq hge (by omega)).2
                                  by_cases h0 : 0 ≤ hAt hs3 tq
                                  · have d3 : decide (0 ≤ hAt hs3 tq) = true := decide_eq_true h0
                                    have d5 : decide (hAt hs3 tq < 0) = false := decide_eq_false (by omega)
                                    by_cases he : hAt hs3 tq = xv
                                    · have HNX := Lib.hid (HSQ.out (by omega) (by omega) he)
                                      have d4 : (hAt hs3 tq == xv) = true := beq_iff_eq.2 he
                                      have d4' : (hAt hs3 tq != xv) = false := by simp [bne, d4]
                                      generalize hAt hs3 tq = ht at *
                                      clear HWQ HMQ HSQ HPQ hb1 hb2 hmt he h0
                                      go_wp2
                                      go_quiet (fail)
                                      go_wp2
                                      go_roundw
                                      case rel => exact ⟨m2, n + 1, hs3, rfl, by go_num, by omega, HNX, Lib.hid (HHn.out _), Lib.hid (HBn.out _), Lib.hid (HPn.out _), Lib.hid (HAn.out _)⟩
                                      case measure => simp [intOf]; omega
                                    · have HBD := Lib.hid (HWR.out (Wrong.two (hmt h0) HMQ.out he))
                                      have d4 : (hAt hs3 tq == xv) = false := beq_eq_false_iff_ne.2 he
                                      have d4' : (hAt hs3 tq != xv) = true := by simp [bne, d4]
                                      generalize hAt hs3 tq = ht at *
                                      clear HWQ HMQ HSQ HPQ hb1 hb2 hmt he h0
                                      go_wp2
                                      go_quiet (fail)
                                      go_wp2
                                      go_ret2
                                      exact ⟨below_drewC HWn.out _, .inr ⟨HBD.out, rfl⟩⟩
                                  · have d3 : decide (0 ≤ hAt hs3 tq) = false := decide_eq_false h0
                                    have d5 : decide (hAt hs3 tq < 0) = true := decide_eq_true (by omega)
                                    have HNX := Lib.hid (HPQ.out (by omega) (by omega) (by omega))
                                    have hfz : wn.frozen? ⟨gH, tq, none⟩ = false := by simp [World.frozen?, HHr.out]
                                    have HS1 := Lib.hid (show ∀ z, ((wn.drewN z).setCell ⟨gH, tq, none⟩ (.int .i64 xv)).heap[gH]? = some (.cells (intsL (hs3.set tq xv)).toArray 3 (0, 0)) from fun z => by rw [← intsL_set]; exact setAt _ gH tq _ _ _ _ (HHn.out z))
                                    have HS2 := Lib.hid (show ∀ z, Below gH wo ((wn.drewN z).setCell ⟨gH, tq, none⟩ (.int .i64 xv)) from fun z => (HBn.out z).setCell (p := ⟨gH, tq, none⟩) (Nat.le_refl _) _)
                                    have HS3 := Lib.hid (show ∀ z, ((wn.drewN z).setCell ⟨gH, tq, none⟩ (.int .i64 xv)).heap[pb]? = _ from fun z => (setNe _ gH tq _ pb (by omega)).trans (HPn.out z))
                                    have HS4 := Lib.hid (show ∀ z, WaysAt ((wn.drewN z).setCell ⟨gH, tq, none⟩ (.int .i64 xv)) (some ⟨gl, 0, none⟩) l from fun z => ways_set (HAn.out z) hglg)
                                    generalize hAt hs3 tq = ht at *
                                    clear HWQ HMQ HSQ HPQ hb1 hb2 hmt h0
                                    go_wp2
                                    go_quiet (fail)
                                    go_wp2
                                    go_roundw
                                    case rel => exact ⟨true, n + 1, hs3.set tq xv, rfl, by go_num, by omega, HNX, Lib.hid (HS1.out _), Lib.hid (HS2.out _), Lib.hid (HS3.out _), Lib.hid (HS4.out _)⟩
                                    case measure => simp [intOf]; omega
                                · obtain rfl : n = l.length := by omega
                                  have HSD := Lib.hid (HDN.out hs3 m2 HWI.out)
                                  clear hnt hnl
                                  go_wp2
                                  go_roundw
                                  case rel => exact ⟨m2, j + 1, hs3, rfl, by go_num, by omega, by omega, HSD, HHr, HBr, HPr⟩
                                  case measure => simp [intOf]; omega
                        · obtain rfl : j = T := by omega
                          have hsn := HSJ.out
                          have HFEW := Lib.hid hsn.few
                          clear hlt hjT
                          cases m' with
                          | false =>
                            have HE : Hid (∃ u, Scn c F j hs hs2 u (if false = true then F else j) false) := Lib.hid ⟨_, hsn⟩
                            clear hsn
                            go_wp2
                            go_roundg (gk - 1)
                            case measure => omega
                            case rel => exact ⟨false, hs2, rfl, fun h => (by cases h), HE, HHr, HBr, HPr⟩
                          | true =>
                            have HE : Hid (∃ u, Scn c F j hs hs2 u (if true = true then F else j) false) := Lib.hid ⟨_, hsn.again⟩
                            have hfw2 := hsn.few
                            rw [if_pos rfl] at hfw2
                            clear hsn
                            go_wp2
                            go_roundg (gk - 1)
                            case measure => omega
                            case rel => exact ⟨true, hs2, rfl, fun _ => by omega, HE, HHr, HBr, HPr⟩
                · obtain rfl : k = c.ps.length := by omega
                  have HHC := Lib.hid HU.out.all
                  clear hlt hk x0 x1
                  go_wp2
                  go_ret2
                  exact ⟨HW5.out.trans (HB5.out.mono (by omega)), .inl ⟨⟨HST.out, hs, HHC.out⟩, hs, gH, HHC.out, ret_hs hlen.symm, HH.out⟩⟩
end Go.Proofs.YthkpnbekkoompabGreatDoor
