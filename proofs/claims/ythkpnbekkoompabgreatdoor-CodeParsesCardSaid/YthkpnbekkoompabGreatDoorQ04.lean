/-
  code: an instruction leads to those that may come next (leadFrom): from_low.
  code: an instruction leads to those that may come next (leadFrom): from_ret.
  code: an instruction leads to those that may come next (leadFrom): from_jump.
  code: an instruction leads to those that may come next (leadFrom): from_next.
  code: an instruction leads to those that may come next (leadFrom): from_two_yes.
  code: an instruction leads to those that may come next (leadFrom): from_two_no.
-/
import Derived.Test.YthkpnbekkoompabGreatDoorQ03
namespace Go.Proofs.YthkpnbekkoompabGreatDoor
open Go.RowKit
section
variable {c : CoM} {A A2 : Option Addr} {c1 c2 : Nat} {p : PrM} {q gH f : Nat} {hs : List Int} {vW : Value} {ws : List Nat} {w : World}

set_option maxRecDepth 100000 in
set_option maxHeartbeats 2000000 in
theorem from_low (h : Fd c A c1 A2 c2 p q gH f hs vW ws w) (F T : Nat) (_hF : p.frm = (F : Int)) (_hT : p.to = (T : Int)) (_hl : T ≤ c.is.length) (hp : ∀ y ∈ c.ps, prOk y) (a : Nat) (ha : a < c.is.length) (hok : inOk p c.ps.length (insAt c a)) (h0 : 0 ≤ hAt hs a ∧ hAt hs a ≤ 200) (_hw : ws.length ≤ 999990) (hlow : hAt hs a < takesM c (insAt c a)) :
    Calls Tryz.prog 58 #[.pointer (some ⟨f, 0, none⟩), .int .i64 (a : Int)] w (LeadP c A c1 A2 c2 p q gH f (fromM c T hs ws a) w) := by
  have HM : Hid (fromM c T hs ws a = (false, hs, ws)) := Lib.hid (by unfold fromM; rw [if_pos hlow])
  have HTK := Lib.hid (fun W (hb : Below w.heap.size w W) => takes_calls (h.below hb) (insAt c a) hok)
  have HLV := Lib.hid (fun W (hb : Below w.heap.size w W) => leaves_calls (h.below hb) (insAt c a) hok)
  obtain ⟨_, d1, _, _, d8, _⟩ := h.cells
  obtain ⟨q1, _⟩ := h.at a (by rw [h.len]; exact ha)
  have hfl := h.flt
  have htk := takesM_in hok hp
  have hlv := leavesM_nn c (insAt c a)
  obtain ⟨b, off, rfl, hb, hcells⟩ := h.co.ins (by omega)
  obtain ⟨g0, g1, g2⟩ := hcells a ha
  have ei : insAt c a = c.is[a] := by unfold insAt; rw [List.getD_eq_getElem?_getD, List.getElem?_eq_getElem ha]; rfl
  rw [← ei] at g0 g1 g2
  have HF := Lib.hid h
  unfold inV at HTK HLV
  generalize takesM c (insAt c a) = tk at *
  generalize leavesM c (insAt c a) = lv at *
  generalize hAt hs a = hv at *
  generalize insAt c a = x at *
  generalize hsd : hv - tk = sd at *
  have hs1 : -64 ≤ sd ∧ sd ≤ 200 := by omega
  have ew : IntKind.i64.wrap (hv - tk) = sd := by rw [hsd]; exact IntWalk.i64_in _ (by omega)
  have hk0 : (0 : Int) ≤ (a : Int) := by omega
  have hk1 : (a : Int) < (c.is.length : Int) := by omega
  have hk2 : (a : Int) < (hs.length : Int) := by have := h.len; omega
  have hk3 : (a : Int) ≤ 1000000000 := by have := h.few; omega
  have t0 : decide (sd < 0) = true := decide_eq_true (by omega)
  clear ei hcells hok h hp _hF _hT hsd hlow
  go_enter Tryz.func58, Tryz.ntmps58
  go_wp2_with fail
  have HB0 := Lib.hid ((Below.refl w.heap.size w).alloc (Nat.le_refl _) (.cells #[.int .i64 x.op, .int .i64 x.arg, .int .i64 x.mor] 42))
  have HX0 := Lib.hid (heapOne w #[.int .i64 x.op, .int .i64 x.arg, .int .i64 x.mor] 42)
  generalize w.alloc (.cells #[.int .i64 x.op, .int .i64 x.arg, .int .i64 x.mor] 42) = W0 at *
  have x0 : W0.drew.cell? ⟨w.heap.size, 0, none⟩ = some (.int .i64 x.op) := cellC HX0.out 0
  have x1 : W0.drew.cell? ⟨w.heap.size, 1, none⟩ = some (.int .i64 x.arg) := cellC HX0.out 1
  have x2 : W0.drew.cell? ⟨w.heap.size, 2, none⟩ = some (.int .i64 x.mor) := cellC HX0.out 2
  have d8 := keepC HB0.out.drew d8 (ltC d8)
  have q1 := keepC HB0.out.drew q1 (ltC q1)
  have HBc := Lib.hid HB0.out.drew
  go_region_held3 (fun w' => w'.cell? ⟨f, 8, none⟩ = some (.slice (some ⟨gH, 0, none⟩) hs.length hs.length) ∧ w'.cell? ⟨gH, a, none⟩ = some (.int .i64 hv) ∧ w'.cell? ⟨w.heap.size, 0, none⟩ = some (.int .i64 x.op) ∧ w'.cell? ⟨w.heap.size, 1, none⟩ = some (.int .i64 x.arg) ∧ w'.cell? ⟨w.heap.size, 2, none⟩ = some (.int .i64 x.mor))
    (with_reducible exact ⟨d8, q1, x0, x1, x2⟩)
    ((go_at_call 76; refine (HTK.out _ HBc.out).mono ?_; rintro e w5 ⟨rfl, hb5⟩; have HBc := Lib.hid (HBc.out.trans (hb5.mono HBc.out.size)); have d8 := keepC hb5 d8 (ltC d8); have q1 := keepC hb5 q1 (ltC q1); have x0 := keepC hb5 x0 (ltC x0); have x1 := keepC hb5 x1 (ltC x1); have x2 := keepC hb5 x2 (ltC x2); clear hb5))
  all_goals
    go_wp2
    go_ret
    refine ⟨ret_bool (by rw [HM.out]), ?_⟩
    rw [HM.out]
    exact ⟨vW, HF.out.below HBc.out, FK.of HBc.out (by omega)⟩
end
end Go.Proofs.YthkpnbekkoompabGreatDoor

namespace Go.Proofs.YthkpnbekkoompabGreatDoor
open Go.RowKit
section
variable {c : CoM} {A A2 : Option Addr} {c1 c2 : Nat} {p : PrM} {q gH f : Nat} {hs : List Int} {vW : Value} {ws : List Nat} {w : World}

set_option maxRecDepth 100000 in
set_option maxHeartbeats 2000000 in
theorem from_ret (h : Fd c A c1 A2 c2 p q gH f hs vW ws w) (F T : Nat) (_hF : p.frm = (F : Int)) (_hT : p.to = (T : Int)) (_hl : T ≤ c.is.length) (hp : ∀ y ∈ c.ps, prOk y) (a : Nat) (ha : a < c.is.length) (hok : inOk p c.ps.length (insAt c a)) (h0 : 0 ≤ hAt hs a ∧ hAt hs a ≤ 200) (_hw : ws.length ≤ 999990) (hge : ¬ hAt hs a < takesM c (insAt c a)) (hop : (insAt c a).op = 27) :
    Calls Tryz.prog 58 #[.pointer (some ⟨f, 0, none⟩), .int .i64 (a : Int)] w (LeadP c A c1 A2 c2 p q gH f (fromM c T hs ws a) w) := by
  have HM : Hid (fromM c T hs ws a = (true, hs, ws)) := Lib.hid (by rw [fromM_of hge]; unfold nexts; rw [if_pos hop]; rfl)
  have HTK := Lib.hid (fun W (hb : Below w.heap.size w W) => takes_calls (h.below hb) (insAt c a) hok)
  have HLV := Lib.hid (fun W (hb : Below w.heap.size w W) => leaves_calls (h.below hb) (insAt c a) hok)
  obtain ⟨_, d1, _, _, d8, _⟩ := h.cells
  obtain ⟨q1, _⟩ := h.at a (by rw [h.len]; exact ha)
  have hfl := h.flt
  have htk := takesM_in hok hp
  have hlv := leavesM_nn c (insAt c a)
  obtain ⟨b, off, rfl, hb, hcells⟩ := h.co.ins (by omega)
  obtain ⟨g0, g1, g2⟩ := hcells a ha
  have ei : insAt c a = c.is[a] := by unfold insAt; rw [List.getD_eq_getElem?_getD, List.getElem?_eq_getElem ha]; rfl
  rw [← ei] at g0 g1 g2
  have HF := Lib.hid h
  unfold inV at HTK HLV
  generalize takesM c (insAt c a) = tk at *
  generalize leavesM c (insAt c a) = lv at *
  generalize hAt hs a = hv at *
  generalize insAt c a = x at *
  generalize hsd : hv - tk = sd at *
  have hs1 : -64 ≤ sd ∧ sd ≤ 200 := by omega
  have ew : IntKind.i64.wrap (hv - tk) = sd := by rw [hsd]; exact IntWalk.i64_in _ (by omega)
  have hk0 : (0 : Int) ≤ (a : Int) := by omega
  have hk1 : (a : Int) < (c.is.length : Int) := by omega
  have hk2 : (a : Int) < (hs.length : Int) := by have := h.len; omega
  have hk3 : (a : Int) ≤ 1000000000 := by have := h.few; omega
  have t0 : decide (sd < 0) = false := decide_eq_false (by omega)
  have o27 : (x.op == 27) = true := beq_iff_eq.2 hop
  clear ei hcells hok h hp _hF _hT hsd hge hop
  go_enter Tryz.func58, Tryz.ntmps58
  go_wp2_with fail
  have HB0 := Lib.hid ((Below.refl w.heap.size w).alloc (Nat.le_refl _) (.cells #[.int .i64 x.op, .int .i64 x.arg, .int .i64 x.mor] 42))
  have HX0 := Lib.hid (heapOne w #[.int .i64 x.op, .int .i64 x.arg, .int .i64 x.mor] 42)
  generalize w.alloc (.cells #[.int .i64 x.op, .int .i64 x.arg, .int .i64 x.mor] 42) = W0 at *
  have x0 : W0.drew.cell? ⟨w.heap.size, 0, none⟩ = some (.int .i64 x.op) := cellC HX0.out 0
  have x1 : W0.drew.cell? ⟨w.heap.size, 1, none⟩ = some (.int .i64 x.arg) := cellC HX0.out 1
  have x2 : W0.drew.cell? ⟨w.heap.size, 2, none⟩ = some (.int .i64 x.mor) := cellC HX0.out 2
  have d8 := keepC HB0.out.drew d8 (ltC d8)
  have q1 := keepC HB0.out.drew q1 (ltC q1)
  have HBc := Lib.hid HB0.out.drew
  go_region_held3 (fun w' => w'.cell? ⟨f, 8, none⟩ = some (.slice (some ⟨gH, 0, none⟩) hs.length hs.length) ∧ w'.cell? ⟨gH, a, none⟩ = some (.int .i64 hv) ∧ w'.cell? ⟨w.heap.size, 0, none⟩ = some (.int .i64 x.op) ∧ w'.cell? ⟨w.heap.size, 1, none⟩ = some (.int .i64 x.arg) ∧ w'.cell? ⟨w.heap.size, 2, none⟩ = some (.int .i64 x.mor))
    (with_reducible exact ⟨d8, q1, x0, x1, x2⟩)
    ((go_at_call 76; refine (HTK.out _ HBc.out).mono ?_; rintro e w5 ⟨rfl, hb5⟩; have HBc := Lib.hid (HBc.out.trans (hb5.mono HBc.out.size)); have d8 := keepC hb5 d8 (ltC d8); have q1 := keepC hb5 q1 (ltC q1); have x0 := keepC hb5 x0 (ltC x0); have x1 := keepC hb5 x1 (ltC x1); have x2 := keepC hb5 x2 (ltC x2); clear hb5))
  all_goals
    go_wp2_with (go_at_call 77; refine (HLV.out _ HBc.out).mono ?_; rintro e w6 ⟨rfl, hb6⟩; have HBc := Lib.hid (HBc.out.trans (hb6.mono HBc.out.size)); have x0 := keepC hb6 x0 (ltC x0); have x1 := keepC hb6 x1 (ltC x1); have x2 := keepC hb6 x2 (ltC x2); have d8 := keepC hb6 d8 (ltC d8); have q1 := keepC hb6 q1 (ltC q1); clear hb6)
    go_ret
    refine ⟨ret_bool (by rw [HM.out]), ?_⟩
    rw [HM.out]
    exact ⟨vW, HF.out.below HBc.out, FK.of HBc.out (by omega)⟩
end
end Go.Proofs.YthkpnbekkoompabGreatDoor

namespace Go.Proofs.YthkpnbekkoompabGreatDoor
open Go.RowKit
section
variable {c : CoM} {A A2 : Option Addr} {c1 c2 : Nat} {p : PrM} {q gH f : Nat} {hs : List Int} {vW : Value} {ws : List Nat} {w : World}

set_option maxRecDepth 100000 in
set_option maxHeartbeats 2000000 in
theorem from_jump (h : Fd c A c1 A2 c2 p q gH f hs vW ws w) (F T : Nat) (hF : p.frm = (F : Int)) (hT : p.to = (T : Int)) (hl : T ≤ c.is.length) (hp : ∀ y ∈ c.ps, prOk y) (a : Nat) (ha : a < c.is.length) (hok : inOk p c.ps.length (insAt c a)) (h0 : 0 ≤ hAt hs a ∧ hAt hs a ≤ 200) (hw : ws.length ≤ 999990) (hge : ¬ hAt hs a < takesM c (insAt c a)) (hop : (insAt c a).op = 22) :
    Calls Tryz.prog 58 #[.pointer (some ⟨f, 0, none⟩), .int .i64 (a : Int)] w (LeadP c A c1 A2 c2 p q gH f (fromM c T hs ws a) w) := by
  obtain ⟨k, hk⟩ := inOk_place hok hF (by omega)
  have hkn : (insAt c a).arg.toNat = k := by omega
  have HM : Hid (fromM c T hs ws a = leadM T hs ws (k, hAt hs a - takesM c (insAt c a) + leavesM c (insAt c a))) := Lib.hid (by rw [fromM_of hge]; unfold nexts; rw [if_neg (by omega), if_pos hop, leadsM_one, hkn])
  have HTK := Lib.hid (fun W (hb : Below w.heap.size w W) => takes_calls (h.below hb) (insAt c a) hok)
  have HLV := Lib.hid (fun W (hb : Below w.heap.size w W) => leaves_calls (h.below hb) (insAt c a) hok)
  obtain ⟨_, d1, _, _, d8, _⟩ := h.cells
  obtain ⟨q1, _⟩ := h.at a (by rw [h.len]; exact ha)
  have hfl := h.flt
  have htk := takesM_in hok hp
  have hlv := leavesM_nn c (insAt c a)
  obtain ⟨b, off, rfl, hb, hcells⟩ := h.co.ins (by omega)
  obtain ⟨g0, g1, g2⟩ := hcells a ha
  have ei : insAt c a = c.is[a] := by unfold insAt; rw [List.getD_eq_getElem?_getD, List.getElem?_eq_getElem ha]; rfl
  rw [← ei] at g0 g1 g2
  have HF := Lib.hid h
  have HL := Lib.hid (fun W (hb : Below w.heap.size w W) => lead_calls (h.below hb) T k (hAt hs a - takesM c (insAt c a) + leavesM c (insAt c a)) hT hl (by omega))
  rw [← hk] at HL
  unfold inV at HTK HLV
  generalize takesM c (insAt c a) = tk at *
  generalize leavesM c (insAt c a) = lv at *
  generalize hAt hs a = hv at *
  generalize insAt c a = x at *
  generalize hsd : hv - tk = sd at *
  have hs1 : -64 ≤ sd ∧ sd ≤ 200 := by omega
  have ew : IntKind.i64.wrap (hv - tk) = sd := by rw [hsd]; exact IntWalk.i64_in _ (by omega)
  have hk0 : (0 : Int) ≤ (a : Int) := by omega
  have hk1 : (a : Int) < (c.is.length : Int) := by omega
  have hk2 : (a : Int) < (hs.length : Int) := by have := h.len; omega
  have hk3 : (a : Int) ≤ 1000000000 := by have := h.few; omega
  have t0 : decide (sd < 0) = false := decide_eq_false (by omega)
  have o27 : (x.op == 27) = false := beq_eq_false_iff_ne.2 (by omega)
  have o22 : (x.op == 22) = true := beq_iff_eq.2 hop
  clear hk hkn
  clear ei hcells hok h hp hF hT hsd hge hop
  go_enter Tryz.func58, Tryz.ntmps58
  go_wp2_with fail
  have HB0 := Lib.hid ((Below.refl w.heap.size w).alloc (Nat.le_refl _) (.cells #[.int .i64 x.op, .int .i64 x.arg, .int .i64 x.mor] 42))
  have HX0 := Lib.hid (heapOne w #[.int .i64 x.op, .int .i64 x.arg, .int .i64 x.mor] 42)
  generalize w.alloc (.cells #[.int .i64 x.op, .int .i64 x.arg, .int .i64 x.mor] 42) = W0 at *
  have x0 : W0.drew.cell? ⟨w.heap.size, 0, none⟩ = some (.int .i64 x.op) := cellC HX0.out 0
  have x1 : W0.drew.cell? ⟨w.heap.size, 1, none⟩ = some (.int .i64 x.arg) := cellC HX0.out 1
  have x2 : W0.drew.cell? ⟨w.heap.size, 2, none⟩ = some (.int .i64 x.mor) := cellC HX0.out 2
  have d8 := keepC HB0.out.drew d8 (ltC d8)
  have q1 := keepC HB0.out.drew q1 (ltC q1)
  have HBc := Lib.hid HB0.out.drew
  go_region_held3 (fun w' => w'.cell? ⟨f, 8, none⟩ = some (.slice (some ⟨gH, 0, none⟩) hs.length hs.length) ∧ w'.cell? ⟨gH, a, none⟩ = some (.int .i64 hv) ∧ w'.cell? ⟨w.heap.size, 0, none⟩ = some (.int .i64 x.op) ∧ w'.cell? ⟨w.heap.size, 1, none⟩ = some (.int .i64 x.arg) ∧ w'.cell? ⟨w.heap.size, 2, none⟩ = some (.int .i64 x.mor))
    (with_reducible exact ⟨d8, q1, x0, x1, x2⟩)
    ((go_at_call 76; refine (HTK.out _ HBc.out).mono ?_; rintro e w5 ⟨rfl, hb5⟩; have HBc := Lib.hid (HBc.out.trans (hb5.mono HBc.out.size)); have d8 := keepC hb5 d8 (ltC d8); have q1 := keepC hb5 q1 (ltC q1); have x0 := keepC hb5 x0 (ltC x0); have x1 := keepC hb5 x1 (ltC x1); have x2 := keepC hb5 x2 (ltC x2); clear hb5))
  all_goals
    go_wp2_with (first | (go_at_call 77; refine (HLV.out _ HBc.out).mono ?_; rintro e w6 ⟨rfl, hb6⟩; have HBc := Lib.hid (HBc.out.trans (hb6.mono HBc.out.size)); have x0 := keepC hb6 x0 (ltC x0); have x1 := keepC hb6 x1 (ltC x1); have x2 := keepC hb6 x2 (ltC x2); have d8 := keepC hb6 d8 (ltC d8); have q1 := keepC hb6 q1 (ltC q1); clear hb6) | (go_at_call 57; with_reducible refine (HL.out _ HBc.out).mono ?_))
    intro e w7 h7
    rw [← HM.out] at h7
    obtain ⟨he, hr⟩ := h7.from HBc.out hfl
    subst he
    have HR := Lib.hid hr
    clear h7 hr
    go_wp2
    go_ret
    exact ⟨rfl, HR.out⟩
end
end Go.Proofs.YthkpnbekkoompabGreatDoor

namespace Go.Proofs.YthkpnbekkoompabGreatDoor
open Go.RowKit
section
variable {c : CoM} {A A2 : Option Addr} {c1 c2 : Nat} {p : PrM} {q gH f : Nat} {hs : List Int} {vW : Value} {ws : List Nat} {w : World}

set_option maxRecDepth 100000 in
set_option maxHeartbeats 2000000 in
theorem from_next (h : Fd c A c1 A2 c2 p q gH f hs vW ws w) (F T : Nat) (_hF : p.frm = (F : Int)) (hT : p.to = (T : Int)) (hl : T ≤ c.is.length) (hp : ∀ y ∈ c.ps, prOk y) (a : Nat) (ha : a < c.is.length) (hok : inOk p c.ps.length (insAt c a)) (h0 : 0 ≤ hAt hs a ∧ hAt hs a ≤ 200) (hw : ws.length ≤ 999990) (hge : ¬ hAt hs a < takesM c (insAt c a)) (hop : (insAt c a).op ≠ 27 ∧ ((insAt c a).op < 22 ∨ 25 < (insAt c a).op)) :
    Calls Tryz.prog 58 #[.pointer (some ⟨f, 0, none⟩), .int .i64 (a : Int)] w (LeadP c A c1 A2 c2 p q gH f (fromM c T hs ws a) w) := by
  have HM : Hid (fromM c T hs ws a = leadM T hs ws (a + 1, hAt hs a - takesM c (insAt c a) + leavesM c (insAt c a))) := Lib.hid (by rw [fromM_of hge]; unfold nexts; rw [if_neg (by omega), if_neg (by omega), if_neg (by omega), if_neg (by omega), leadsM_one])
  have HTK := Lib.hid (fun W (hb : Below w.heap.size w W) => takes_calls (h.below hb) (insAt c a) hok)
  have HLV := Lib.hid (fun W (hb : Below w.heap.size w W) => leaves_calls (h.below hb) (insAt c a) hok)
  obtain ⟨_, d1, _, _, d8, _⟩ := h.cells
  obtain ⟨q1, _⟩ := h.at a (by rw [h.len]; exact ha)
  have hfl := h.flt
  have htk := takesM_in hok hp
  have hlv := leavesM_nn c (insAt c a)
  obtain ⟨b, off, rfl, hb, hcells⟩ := h.co.ins (by omega)
  obtain ⟨g0, g1, g2⟩ := hcells a ha
  have ei : insAt c a = c.is[a] := by unfold insAt; rw [List.getD_eq_getElem?_getD, List.getElem?_eq_getElem ha]; rfl
  rw [← ei] at g0 g1 g2
  have HF := Lib.hid h
  have HL := Lib.hid (fun W (hb : Below w.heap.size w W) => lead_calls (h.below hb) T (a + 1) (hAt hs a - takesM c (insAt c a) + leavesM c (insAt c a)) hT hl (by omega))
  rw [show ((a + 1 : Nat) : Int) = (a : Int) + 1 by omega] at HL
  unfold inV at HTK HLV
  generalize takesM c (insAt c a) = tk at *
  generalize leavesM c (insAt c a) = lv at *
  generalize hAt hs a = hv at *
  generalize insAt c a = x at *
  generalize hsd : hv - tk = sd at *
  have hs1 : -64 ≤ sd ∧ sd ≤ 200 := by omega
  have ew : IntKind.i64.wrap (hv - tk) = sd := by rw [hsd]; exact IntWalk.i64_in _ (by omega)
  have hk0 : (0 : Int) ≤ (a : Int) := by omega
  have hk1 : (a : Int) < (c.is.length : Int) := by omega
  have hk2 : (a : Int) < (hs.length : Int) := by have := h.len; omega
  have hk3 : (a : Int) ≤ 1000000000 := by have := h.few; omega
  have t0 : decide (sd < 0) = false := decide_eq_false (by omega)
  have o27 : (x.op == 27) = false := beq_eq_false_iff_ne.2 (by omega)
  have o22 : (x.op == 22) = false := beq_eq_false_iff_ne.2 (by omega)
  have o23 : (x.op == 23) = false := beq_eq_false_iff_ne.2 (by omega)
  have o24 : (x.op == 24) = false := beq_eq_false_iff_ne.2 (by omega)
  have o25 : (x.op == 25) = false := beq_eq_false_iff_ne.2 (by omega)
  clear ei hcells hok h hp _hF hT hsd hge hop
  go_enter Tryz.func58, Tryz.ntmps58
  go_wp2_with fail
  have HB0 := Lib.hid ((Below.refl w.heap.size w).alloc (Nat.le_refl _) (.cells #[.int .i64 x.op, .int .i64 x.arg, .int .i64 x.mor] 42))
  have HX0 := Lib.hid (heapOne w #[.int .i64 x.op, .int .i64 x.arg, .int .i64 x.mor] 42)
  generalize w.alloc (.cells #[.int .i64 x.op, .int .i64 x.arg, .int .i64 x.mor] 42) = W0 at *
  have x0 : W0.drew.cell? ⟨w.heap.size, 0, none⟩ = some (.int .i64 x.op) := cellC HX0.out 0
  have x1 : W0.drew.cell? ⟨w.heap.size, 1, none⟩ = some (.int .i64 x.arg) := cellC HX0.out 1
  have x2 : W0.drew.cell? ⟨w.heap.size, 2, none⟩ = some (.int .i64 x.mor) := cellC HX0.out 2
  have d8 := keepC HB0.out.drew d8 (ltC d8)
  have q1 := keepC HB0.out.drew q1 (ltC q1)
  have HBc := Lib.hid HB0.out.drew
  go_region_held3 (fun w' => w'.cell? ⟨f, 8, none⟩ = some (.slice (some ⟨gH, 0, none⟩) hs.length hs.length) ∧ w'.cell? ⟨gH, a, none⟩ = some (.int .i64 hv) ∧ w'.cell? ⟨w.heap.size, 0, none⟩ = some (.int .i64 x.op) ∧ w'.cell? ⟨w.heap.size, 1, none⟩ = some (.int .i64 x.arg) ∧ w'.cell? ⟨w.heap.size, 2, none⟩ = some (.int .i64 x.mor))
    (with_reducible exact ⟨d8, q1, x0, x1, x2⟩)
    ((go_at_call 76; refine (HTK.out _ HBc.out).mono ?_; rintro e w5 ⟨rfl, hb5⟩; have HBc := Lib.hid (HBc.out.trans (hb5.mono HBc.out.size)); have d8 := keepC hb5 d8 (ltC d8); have q1 := keepC hb5 q1 (ltC q1); have x0 := keepC hb5 x0 (ltC x0); have x1 := keepC hb5 x1 (ltC x1); have x2 := keepC hb5 x2 (ltC x2); clear hb5))
  all_goals
    go_wp2_with (first | (go_at_call 77; refine (HLV.out _ HBc.out).mono ?_; rintro e w6 ⟨rfl, hb6⟩; have HBc := Lib.hid (HBc.out.trans (hb6.mono HBc.out.size)); have x0 := keepC hb6 x0 (ltC x0); have x1 := keepC hb6 x1 (ltC x1); have x2 := keepC hb6 x2 (ltC x2); have d8 := keepC hb6 d8 (ltC d8); have q1 := keepC hb6 q1 (ltC q1); clear hb6) | (go_at_call 57; with_reducible refine (HL.out _ HBc.out).mono ?_))
    intro e w7 h7
    rw [← HM.out] at h7
    obtain ⟨he, hr⟩ := h7.from HBc.out hfl
    subst he
    have HR := Lib.hid hr
    clear h7 hr
    go_wp2
    go_ret
    exact ⟨rfl, HR.out⟩
end
end Go.Proofs.YthkpnbekkoompabGreatDoor

namespace Go.Proofs.YthkpnbekkoompabGreatDoor
open Go.RowKit
section
variable {c : CoM} {A A2 : Option Addr} {c1 c2 : Nat} {p : PrM} {q gH f : Nat} {hs : List Int} {vW : Value} {ws : List Nat} {w : World}

set_option maxRecDepth 100000 in
set_option maxHeartbeats 2000000 in
theorem from_two_yes (h : Fd c A c1 A2 c2 p q gH f hs vW ws w) (F T : Nat) (_hF : p.frm = (F : Int)) (hT : p.to = (T : Int)) (hl : T ≤ c.is.length) (hp : ∀ y ∈ c.ps, prOk y) (a : Nat) (ha : a < c.is.length) (hok : inOk p c.ps.length (insAt c a)) (h0 : 0 ≤ hAt hs a ∧ hAt hs a ≤ 200) (hw : ws.length ≤ 999990) (hge : ¬ hAt hs a < takesM c (insAt c a)) (hop : (insAt c a).op = 23) (k : Nat) (hk : (insAt c a).arg = (k : Int)) (hR : (leadM T hs ws (k, hAt hs a - takesM c (insAt c a) + leavesM c (insAt c a))).1 = true) :
    Calls Tryz.prog 58 #[.pointer (some ⟨f, 0, none⟩), .int .i64 (a : Int)] w (LeadP c A c1 A2 c2 p q gH f (fromM c T hs ws a) w) := by
  have hkn : (insAt c a).arg.toNat = k := by omega
  have HM : Hid (fromM c T hs ws a = leadM T (leadM T hs ws (k, hAt hs a - takesM c (insAt c a) + leavesM c (insAt c a))).2.1 (leadM T hs ws (k, hAt hs a - takesM c (insAt c a) + leavesM c (insAt c a))).2.2 (a + 1, hAt hs a - takesM c (insAt c a) + leavesM c (insAt c a))) := Lib.hid (by rw [fromM_of hge]; unfold nexts; rw [if_neg (by omega), if_neg (by omega), if_pos hop, hkn, leadsM_yes _ _ _ _ _ hR])
  have HTK := Lib.hid (fun W (hb : Below w.heap.size w W) => takes_calls (h.below hb) (insAt c a) hok)
  have HLV := Lib.hid (fun W (hb : Below w.heap.size w W) => leaves_calls (h.below hb) (insAt c a) hok)
  obtain ⟨_, d1, _, _, d8, _⟩ := h.cells
  obtain ⟨q1, _⟩ := h.at a (by rw [h.len]; exact ha)
  have hfl := h.flt
  have htk := takesM_in hok hp
  have hlv := leavesM_nn c (insAt c a)
  obtain ⟨b, off, rfl, hb, hcells⟩ := h.co.ins (by omega)
  obtain ⟨g0, g1, g2⟩ := hcells a ha
  have ei : insAt c a = c.is[a] := by unfold insAt; rw [List.getD_eq_getElem?_getD, List.getElem?_eq_getElem ha]; rfl
  rw [← ei] at g0 g1 g2
  have HF := Lib.hid h
  have HL := Lib.hid (fun W (hb : Below w.heap.size w W) => lead_calls (h.below hb) T k (hAt hs a - takesM c (insAt c a) + leavesM c (insAt c a)) hT hl (by omega))
  rw [← hk] at HL
  have hlw := leadM_len T hs ws (k, hAt hs a - takesM c (insAt c a) + leavesM c (insAt c a))
  have HL2 := Lib.hid (fun W vW' (hb : Fd c A c1 (some ⟨b, off, none⟩) c2 p q gH f (leadM T hs ws (k, hAt hs a - takesM c (insAt c a) + leavesM c (insAt c a))).2.1 vW' (leadM T hs ws (k, hAt hs a - takesM c (insAt c a) + leavesM c (insAt c a))).2.2 W) => lead_calls hb T (a + 1) (hAt hs a - takesM c (insAt c a) + leavesM c (insAt c a)) hT hl (by omega))
  rw [show ((a + 1 : Nat) : Int) = (a : Int) + 1 by omega] at HL2
  have HRB : Hid ((leadM T hs ws (k, hAt hs a - takesM c (insAt c a) + leavesM c (insAt c a))).1 = true) := Lib.hid hR
  generalize leadM T hs ws (k, hAt hs a - takesM c (insAt c a) + leavesM c (insAt c a)) = R1 at *
  clear hR
  unfold inV at HTK HLV
  generalize takesM c (insAt c a) = tk at *
  generalize leavesM c (insAt c a) = lv at *
  generalize hAt hs a = hv at *
  generalize insAt c a = x at *
  generalize hsd : hv - tk = sd at *
  have hs1 : -64 ≤ sd ∧ sd ≤ 200 := by omega
  have ew : IntKind.i64.wrap (hv - tk) = sd := by rw [hsd]; exact IntWalk.i64_in _ (by omega)
  have hk0 : (0 : Int) ≤ (a : Int) := by omega
  have hk1 : (a : Int) < (c.is.length : Int) := by omega
  have hk2 : (a : Int) < (hs.length : Int) := by have := h.len; omega
  have hk3 : (a : Int) ≤ 1000000000 := by have := h.few; omega
  have t0 : decide (sd < 0) = false := decide_eq_false (by omega)
  have o27 : (x.op == 27) = false := beq_eq_false_iff_ne.2 (by omega)
  have o22 : (x.op == 22) = false := beq_eq_false_iff_ne.2 (by omega)
  have o23 : (x.op == 23) = true := beq_iff_eq.2 hop
  clear hk hkn hlw
  clear ei hcells hok h hp _hF hT hsd hge hop
  go_enter Tryz.func58, Tryz.ntmps58
  go_wp2_with fail
  have HB0 := Lib.hid ((Below.refl w.heap.size w).alloc (Nat.le_refl _) (.cells #[.int .i64 x.op, .int .i64 x.arg, .int .i64 x.mor] 42))
  have HX0 := Lib.hid (heapOne w #[.int .i64 x.op, .int .i64 x.arg, .int .i64 x.mor] 42)
  generalize w.alloc (.cells #[.int .i64 x.op, .int .i64 x.arg, .int .i64 x.mor] 42) = W0 at *
  have x0 : W0.drew.cell? ⟨w.heap.size, 0, none⟩ = some (.int .i64 x.op) := cellC HX0.out 0
  have x1 : W0.drew.cell? ⟨w.heap.size, 1, none⟩ = some (.int .i64 x.arg) := cellC HX0.out 1
  have x2 : W0.drew.cell? ⟨w.heap.size, 2, none⟩ = some (.int .i64 x.mor) := cellC HX0.out 2
  have d8 := keepC HB0.out.drew d8 (ltC d8)
  have q1 := keepC HB0.out.drew q1 (ltC q1)
  have HBc := Lib.hid HB0.out.drew
  go_region_held3 (fun w' => w'.cell? ⟨f, 8, none⟩ = some (.slice (some ⟨gH, 0, none⟩) hs.length hs.length) ∧ w'.cell? ⟨gH, a, none⟩ = some (.int .i64 hv) ∧ w'.cell? ⟨w.heap.size, 0, none⟩ = some (.int .i64 x.op) ∧ w'.cell? ⟨w.heap.size, 1, none⟩ = some (.int .i64 x.arg) ∧ w'.cell? ⟨w.heap.size, 2, none⟩ = some (.int .i64 x.mor))
    (with_reducible exact ⟨d8, q1, x0, x1, x2⟩)
    ((go_at_call 76; refine (HTK.out _ HBc.out).mono ?_; rintro e w5 ⟨rfl, hb5⟩; have HBc := Lib.hid (HBc.out.trans (hb5.mono HBc.out.size)); have d8 := keepC hb5 d8 (ltC d8); have q1 := keepC hb5 q1 (ltC q1); have x0 := keepC hb5 x0 (ltC x0); have x1 := keepC hb5 x1 (ltC x1); have x2 := keepC hb5 x2 (ltC x2); clear hb5))
  all_goals
    go_wp2_with (first | (go_at_call 77; refine (HLV.out _ HBc.out).mono ?_; rintro e w6 ⟨rfl, hb6⟩; have HBc := Lib.hid (HBc.out.trans (hb6.mono HBc.out.size)); have x0 := keepC hb6 x0 (ltC x0); have x1 := keepC hb6 x1 (ltC x1); have x2 := keepC hb6 x2 (ltC x2); have d8 := keepC hb6 d8 (ltC d8); have q1 := keepC hb6 q1 (ltC q1); clear hb6) | (first | (go_at_call 57; ((with_reducible refine (HL2.out _ _ HF7.out).mono ?_); intro e w8 h8; rw [← HM.out] at h8; obtain ⟨rfl, vW8, hFd8, hK8⟩ := h8; have HF8 := Lib.hid hFd8; have HK8 := Lib.hid (HK7.out.trans hK8); clear hFd8 hK8)) | (go_at_call 57; ((with_reducible refine (HL.out _ HBc.out).mono ?_); intro e w7 h7; have h7 := h7.from HBc.out hfl; rw [LeadP, HRB.out] at h7; obtain ⟨rfl, vW7, hFd7, hK7⟩ := h7; have HF7 := Lib.hid hFd7; have HK7 := Lib.hid hK7; clear hFd7 hK7))))
    all_goals
      go_ret
      exact ⟨rfl, vW8, HF8.out, HK8.out⟩
end
end Go.Proofs.YthkpnbekkoompabGreatDoor

namespace Go.Proofs.YthkpnbekkoompabGreatDoor
open Go.RowKit
section
variable {c : CoM} {A A2 : Option Addr} {c1 c2 : Nat} {p : PrM} {q gH f : Nat} {hs : List Int} {vW : Value} {ws : List Nat} {w : World}

set_option maxRecDepth 100000 in
set_option maxHeartbeats 2000000 in
theorem from_two_no (h : Fd c A c1 A2 c2 p q gH f hs vW ws w) (F T : Nat) (_hF : p.frm = (F : Int)) (hT : p.to = (T : Int)) (hl : T ≤ c.is.length) (hp : ∀ y ∈ c.ps, prOk y) (a : Nat) (ha : a < c.is.length) (hok : inOk p c.ps.length (insAt c a)) (h0 : 0 ≤ hAt hs a ∧ hAt hs a ≤ 200) (hw : ws.length ≤ 999990) (hge : ¬ hAt hs a < takesM c (insAt c a)) (hop : (insAt c a).op = 23) (k : Nat) (hk : (insAt c a).arg = (k : Int)) (hR : ¬ (leadM T hs ws (k, hAt hs a - takesM c (insAt c a) + leavesM c (insAt c a))).1 = true) :
    Calls Tryz.prog 58 #[.pointer (some ⟨f, 0, none⟩), .int .i64 (a : Int)] w (LeadP c A c1 A2 c2 p q gH f (fromM c T hs ws a) w) := by
  have hkn : (insAt c a).arg.toNat = k := by omega
  have HM : Hid (fromM c T hs ws a = leadM T hs ws (k, hAt hs a - takesM c (insAt c a) + leavesM c (insAt c a))) := Lib.hid (by rw [fromM_of hge]; unfold nexts; rw [if_neg (by omega), if_neg (by omega), if_pos hop, hkn, leadsM_no _ _ _ _ _ hR])
  have HTK := Lib.hid (fun W (hb : Below w.heap.size w W) => takes_calls (h.below hb) (insAt c a) hok)
  have HLV := Lib.hid (fun W (hb : Below w.heap.size w W) => leaves_calls (h.below hb) (insAt c a) hok)
  obtain ⟨_, d1, _, _, d8, _⟩ := h.cells
  obtain ⟨q1, _⟩ := h.at a (by rw [h.len]; exact ha)
  have hfl := h.flt
  have htk := takesM_in hok hp
  have hlv := leavesM_nn c (insAt c a)
  obtain ⟨b, off, rfl, hb, hcells⟩ := h.co.ins (by omega)
  obtain ⟨g0, g1, g2⟩ := hcells a ha
  have ei : insAt c a = c.is[a] := by unfold insAt; rw [List.getD_eq_getElem?_getD, List.getElem?_eq_getElem ha]; rfl
  rw [← ei] at g0 g1 g2
  have HF := Lib.hid h
  have HL := Lib.hid (fun W (hb : Below w.heap.size w W) => lead_calls (h.below hb) T k (hAt hs a - takesM c (insAt c a) + leavesM c (insAt c a)) hT hl (by omega))
  rw [← hk] at HL
  have hlw := leadM_len T hs ws (k, hAt hs a - takesM c (insAt c a) + leavesM c (insAt c a))
  have HRB : Hid ((leadM T hs ws (k, hAt hs a - takesM c (insAt c a) + leavesM c (insAt c a))).1 = false) := Lib.hid (by simpa using hR)
  generalize leadM T hs ws (k, hAt hs a - takesM c (insAt c a) + leavesM c (insAt c a)) = R1 at *
  clear hR
  unfold inV at HTK HLV
  generalize takesM c (insAt c a) = tk at *
  generalize leavesM c (insAt c a) = lv at *
  generalize hAt hs a = hv at *
  generalize insAt c a = x at *
  generalize hsd : hv - tk = sd at *
  have hs1 : -64 ≤ sd ∧ sd ≤ 200 := by omega
  have ew : IntKind.i64.wrap (hv - tk) = sd := by rw [hsd]; exact IntWalk.i64_in _ (by omega)
  have hk0 : (0 : Int) ≤ (a : Int) := by omega
  have hk1 : (a : Int) < (c.is.length : Int) := by omega
  have hk2 : (a : Int) < (hs.length : Int) := by have := h.len; omega
  have hk3 : (a : Int) ≤ 1000000000 := by have := h.few; omega
  have t0 : decide (sd < 0) = false := decide_eq_false (by omega)
  have o27 : (x.op == 27) = false := beq_eq_false_iff_ne.2 (by omega)
  have o22 : (x.op == 22) = false := beq_eq_false_iff_ne.2 (by omega)
  have o23 : (x.op == 23) = true := beq_iff_eq.2 hop
  clear hk hkn hlw
  clear ei hcells hok h hp _hF hT hsd hge hop
  go_enter Tryz.func58, Tryz.ntmps58
  go_wp2_with fail
  have HB0 := Lib.hid ((Below.refl w.heap.size w).alloc (Nat.le_refl _) (.cells #[.int .i64 x.op, .int .i64 x.arg, .int .i64 x.mor] 42))
  have HX0 := Lib.hid (heapOne w #[.int .i64 x.op, .int .i64 x.arg, .int .i64 x.mor] 42)
  generalize w.alloc (.cells #[.int .i64 x.op, .int .i64 x.arg, .int .i64 x.mor] 42) = W0 at *
  have x0 : W0.drew.cell? ⟨w.heap.size, 0, none⟩ = some (.int .i64 x.op) := cellC HX0.out 0
  have x1 : W0.drew.cell? ⟨w.heap.size, 1, none⟩ = some (.int .i64 x.arg) := cellC HX0.out 1
  have x2 : W0.drew.cell? ⟨w.heap.size, 2, none⟩ = some (.int .i64 x.mor) := cellC HX0.out 2
  have d8 := keepC HB0.out.drew d8 (ltC d8)
  have q1 := keepC HB0.out.drew q1 (ltC q1)
  have HBc := Lib.hid HB0.out.drew
  go_region_held3 (fun w' => w'.cell? ⟨f, 8, none⟩ = some (.slice (some ⟨gH, 0, none⟩) hs.length hs.length) ∧ w'.cell? ⟨gH, a, none⟩ = some (.int .i64 hv) ∧ w'.cell? ⟨w.heap.size, 0, none⟩ = some (.int .i64 x.op) ∧ w'.cell? ⟨w.heap.size, 1, none⟩ = some (.int .i64 x.arg) ∧ w'.cell? ⟨w.heap.size, 2, none⟩ = some (.int .i64 x.mor))
    (with_reducible exact ⟨d8, q1, x0, x1, x2⟩)
    ((go_at_call 76; refine (HTK.out _ HBc.out).mono ?_; rintro e w5 ⟨rfl, hb5⟩; have HBc := Lib.hid (HBc.out.trans (hb5.mono HBc.out.size)); have d8 := keepC hb5 d8 (ltC d8); have q1 := keepC hb5 q1 (ltC q1); have x0 := keepC hb5 x0 (ltC x0); have x1 := keepC hb5 x1 (ltC x1); have x2 := keepC hb5 x2 (ltC x2); clear hb5))
  all_goals
    go_wp2_with (first | (go_at_call 77; refine (HLV.out _ HBc.out).mono ?_; rintro e w6 ⟨rfl, hb6⟩; have HBc := Lib.hid (HBc.out.trans (hb6.mono HBc.out.size)); have x0 := keepC hb6 x0 (ltC x0); have x1 := keepC hb6 x1 (ltC x1); have x2 := keepC hb6 x2 (ltC x2); have d8 := keepC hb6 d8 (ltC d8); have q1 := keepC hb6 q1 (ltC q1); clear hb6) | (go_at_call 57; ((with_reducible refine (HL.out _ HBc.out).mono ?_); intro e w7 h7; have h7 := h7.from HBc.out hfl; rw [LeadP, HRB.out] at h7; obtain ⟨rfl, vW7, hFd7, hK7⟩ := h7; have HF7 := Lib.hid hFd7; have HK7 := Lib.hid hK7; clear hFd7 hK7)))
    all_goals
      go_ret
      refine ⟨ret_bool (by rw [HM.out, HRB.out]), ?_⟩
      rw [HM.out]
      exact ⟨vW7, HF7.out, HK7.out⟩
end
end Go.Proofs.YthkpnbekkoompabGreatDoor
