/-
  code: an instruction leads to those that may come next (leadFrom): from_and25_yes.
-/
import Derived.Test.YthkpnbekkoompabGreatDoorQ03
namespace Go.Proofs.YthkpnbekkoompabGreatDoor
open Go.RowKit
section
variable {c : CoM} {A A2 : Option Addr} {c1 c2 : Nat} {p : PrM} {q gH f : Nat} {hs : List Int} {vW : Value} {ws : List Nat} {w : World}

set_option maxRecDepth 100000 in
set_option maxHeartbeats 6000000 in
theorem from_and25_yes (h : Fd c A c1 A2 c2 p q gH f hs vW ws w) (F T : Nat) (_hF : p.frm = (F : Int)) (hT : p.to = (T : Int)) (hl : T ≤ c.is.length) (hp : ∀ y ∈ c.ps, prOk y) (a : Nat) (ha : a < c.is.length) (hok : inOk p c.ps.length (insAt c a)) (h0 : 0 ≤ hAt hs a ∧ hAt hs a ≤ 200) (hw : ws.length ≤ 999990) (hge : ¬ hAt hs a < takesM c (insAt c a)) (hop : (insAt c a).op = 25) (k : Nat) (hk : (insAt c a).arg = (k : Int)) (hR : (leadM T hs ws (k, hAt hs a)).1 = true) :
    Calls Tryz.prog 58 #[.pointer (some ⟨f, 0, none⟩), .int .i64 (a : Int)] w (LeadP c A c1 A2 c2 p q gH f (fromM c T hs ws a) w) := by
  have hkn : (insAt c a).arg.toNat = k := by omega
  have HM : Hid (fromM c T hs ws a = leadM T (leadM T hs ws (k, hAt hs a)).2.1 (leadM T hs ws (k, hAt hs a)).2.2 (a + 1, hAt hs a - takesM c (insAt c a) + leavesM c (insAt c a))) := Lib.hid (by rw [fromM_of hge]; unfold nexts; rw [if_neg (by omega), if_neg (by omega), if_neg (by omega), if_pos (by omega), hkn, leadsM_yes _ _ _ _ _ hR])
  have HTK := Lib.hid (fun W (hb : Below w.heap.size w W) => takes_calls (h.below hb) (insAt c a) hok)
  have HLV := Lib.hid (fun W (hb : Below w.heap.size w W) => leaves_calls (h.below hb) (insAt c a) hok)
  obtain ⟨_, d1, _, _, d8, _⟩ := h.cells
  obtain ⟨q1, _⟩ := h.at a (by rw [h.len]; exact ha)
  have hfl := h.flt
  have htk := takesM_in hok hp
  have hlv := leavesM_nn c (insAt c a)
  obtain ⟨b, off, rfl, hb, hcells⟩ := h.co.ins (by omega)
  obtain ⟨g0, g1, g2⟩ := hcells a ha
  have ei : insAt c a = c.is[a] := by unfold insAt; rw [List.getD_eq_getElem?_getD, List.getElem?_eq_getElem ha]; rfl
  rw [← ei] at g0 g1 g2
  have HF := Lib.hid h
  have HL := Lib.hid (fun W (hb : Below w.heap.size w W) => lead_callsQ (h.below hb) T k (hAt hs a) hT hl (by omega))
  rw [← hk] at HL
  have hlw := leadM_len T hs ws (k, hAt hs a)
  have HL2 := Lib.hid (fun W vW' (hb : Fd c A c1 (some ⟨b, off, none⟩) c2 p q gH f (leadM T hs ws (k, hAt hs a)).2.1 vW' (leadM T hs ws (k, hAt hs a)).2.2 W) => lead_calls hb T (a + 1) (hAt hs a - takesM c (insAt c a) + leavesM c (insAt c a)) hT hl (by omega))
  rw [show ((a + 1 : Nat) : Int) = (a : Int) + 1 by omega] at HL2
  have HRB : Hid ((leadM T hs ws (k, hAt hs a)).1 = true) := Lib.hid hR
  have hq1 : hAt (leadM T hs ws (k, hAt hs a)).2.1 a = hAt hs a := leadM_keep T hs ws _ a h0.1
  generalize leadM T hs ws (k, hAt hs a) = R1 at *
  clear hR
  have HN1 : Hid (w.heap.size ≠ gH) := Lib.hid (by have := h.lt; omega)
  have HN2 : Hid (w.heap.size ≠ f) := Lib.hid (by omega)
  have HN3 : Hid (vW.ownBlock ≠ some w.heap.size) := Lib.hid (fun e => by have := (own_ltC h.wait _ e).2; omega)
  have HLN : Hid (c.is.length = hs.length) := Lib.hid h.len.symm
  have HQ1 : Hid (hAt R1.2.1 a = hAt hs a) := Lib.hid hq1
  unfold inV at HTK HLV
  generalize takesM c (insAt c a) = tk at *
  generalize leavesM c (insAt c a) = lv at *
  generalize hAt hs a = hv at *
  generalize insAt c a = x at *
  generalize hsd : hv - tk = sd at *
  have hs1 : -64 ≤ sd ∧ sd ≤ 200 := by omega
  have ew : IntKind.i64.wrap (hv - tk) = sd := by rw [hsd]; exact IntWalk.i64_in _ (by omega)
  have hk0 : (0 : Int) ≤ (a : Int) := by omega
  have hk1 : (a : Int) < (c.is.length : Int) := by omega
  have hk2 : (a : Int) < (hs.length : Int) := by have := h.len; omega
  have hk3 : (a : Int) ≤ 1000000000 := by have := h.few; omega
  have t0 : decide (sd < 0) = false := decide_eq_false (by omega)
  have o27 : (x.op == 27) = false := beq_eq_false_iff_ne.2 (by omega)
  have o22 : (x.op == 22) = false := beq_eq_false_iff_ne.2 (by omega)
  have o23 : (x.op == 23) = false := beq_eq_false_iff_ne.2 (by omega)
  have o24 : (x.op == 24) = false := beq_eq_false_iff_ne.2 (by omega)
  have o25 : (x.op == 25) = true := beq_iff_eq.2 hop
  clear hk hkn hlw
  clear ei hcells hok h hp _hF hT hsd hge hop
  go_enter Tryz.func58, Tryz.ntmps58
  go_wp2_with fail
  have HB0 := Lib.hid ((Below.refl w.heap.size w).alloc (Nat.le_refl _) (.cells #[.int .i64 x.op, .int .i64 x.arg, .int .i64 x.mor] 42))
  have HX0 := Lib.hid (heapOne w #[.int .i64 x.op, .int .i64 x.arg, .int .i64 x.mor] 42)
  generalize w.alloc (.cells #[.int .i64 x.op, .int .i64 x.arg, .int .i64 x.mor] 42) = W0 at *
  have x0 : W0.drew.cell? ⟨w.heap.size, 0, none⟩ = some (.int .i64 x.op) := cellC HX0.out 0
  have x1 : W0.drew.cell? ⟨w.heap.size, 1, none⟩ = some (.int .i64 x.arg) := cellC HX0.out 1
  have x2 : W0.drew.cell? ⟨w.heap.size, 2, none⟩ = some (.int .i64 x.mor) := cellC HX0.out 2
  have d8 := keepC HB0.out.drew d8 (ltC d8)
  have q1 := keepC HB0.out.drew q1 (ltC q1)
  have HBc := Lib.hid HB0.out.drew
  go_region_held3 (fun w' => w'.cell? ⟨f, 8, none⟩ = some (.slice (some ⟨gH, 0, none⟩) hs.length hs.length) ∧ w'.cell? ⟨gH, a, none⟩ = some (.int .i64 hv) ∧ w'.cell? ⟨w.heap.size, 0, none⟩ = some (.int .i64 x.op) ∧ w'.cell? ⟨w.heap.size, 1, none⟩ = some (.int .i64 x.arg) ∧ w'.cell? ⟨w.heap.size, 2, none⟩ = some (.int .i64 x.mor))
    (with_reducible exact ⟨d8, q1, x0, x1, x2⟩)
    ((go_at_call 76; refine (HTK.out _ HBc.out).mono ?_; rintro e w5 ⟨rfl, hb5⟩; have HBc := Lib.hid (HBc.out.trans (hb5.mono HBc.out.size)); have d8 := keepC hb5 d8 (ltC d8); have q1 := keepC hb5 q1 (ltC q1); have x0 := keepC hb5 x0 (ltC x0); have x1 := keepC hb5 x1 (ltC x1); have x2 := keepC hb5 x2 (ltC x2); clear hb5))
  all_goals
    focus
      go_wp2_with (go_at_call 77; refine (HLV.out _ HBc.out).mono ?_; rintro e w6 ⟨rfl, hb6⟩; have HBc := Lib.hid (HBc.out.trans (hb6.mono HBc.out.size)); have x0 := keepC hb6 x0 (ltC x0); have x1 := keepC hb6 x1 (ltC x1); have x2 := keepC hb6 x2 (ltC x2); have d8 := keepC hb6 d8 (ltC d8); have q1 := keepC hb6 q1 (ltC q1); clear hb6)
      have HBc := Lib.hid HBc.out.drew
      have ea1 : IntKind.i64.wrap ((a : Int) + 1) = (a : Int) + 1 := IntWalk.i64_in _ (by omega)
      first
        | (go_region_with (first | (go_at_call 57; ((with_reducible refine (HL2.out _ _ HF7.out).mono ?_); intro e w8 h8; rw [← HM.out] at h8; obtain ⟨rfl, vW8, hFd8, hK8⟩ := h8; have HF8 := Lib.hid hFd8; have HK8 := Lib.hid (HK7.out.trans hK8); clear hFd8 hK8)) | (go_at_call 57; ((with_reducible refine (HL.out _ HBc.out).mono ?_); rintro e w7 ⟨he, vW7, hFd7, hK7, hO7⟩; rw [HRB.out] at he; subst he; have x1' := (World.cell?_of_block (a := ⟨w.heap.size, 1, none⟩) (hO7 w.heap.size (ltC x1) HN1.out HN2.out HN3.out)).trans x1; have d8' : w7.cell? ⟨f, 8, none⟩ = some (.slice (some ⟨gH, 0, none⟩) hs.length hs.length) := (by rw [hFd7.cells.2.2.2.2.1, hFd7.len, HLN.out]); have q1' := (hFd7.at a (by rw [hFd7.len]; exact ha)).1; clear x1' d8' q1'; have HF7 := Lib.hid hFd7; have HK7 := Lib.hid ((FK.of HBc.out (by omega)).trans hK7); clear hFd7 hK7 hO7))))
        | fail
      all_goals
        go_wp2
        go_ret
        exact ⟨rfl, vW8, HF8.out, HK8.out⟩
end
end Go.Proofs.YthkpnbekkoompabGreatDoor
