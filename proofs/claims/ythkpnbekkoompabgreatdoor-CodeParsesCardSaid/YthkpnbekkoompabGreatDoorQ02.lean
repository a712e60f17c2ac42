/-
  code.isName; may a procedure, an instruction be (but for heights).
  code: may an instruction be (but for heights).
  code.inOrder: do procedures follow one another.
-/
import Derived.Test.YthkpnbekkoompabGreatDoorCoB
import Derived.Test.YthkpnbekkoompabGreatDoorCoN
import Derived.Test.YthkpnbekkoompabGreatDoorNext
import Derived.LoopTactic
namespace Go.Proofs.YthkpnbekkoompabGreatDoor
open Go.RowKit

theorem isNm_b (t : List UInt8) : isNm t = ((!nextBad t 0) && (nextT t 0).kind == 1 && (nextT t 0).lo == 0 && (nextT t 0).hi == t.length) := by
  rw [Bool.eq_iff_iff, ← isNm_next t]
  simp [and_assoc]
set_option maxRecDepth 100000 in
set_option maxHeartbeats 1000000 in
theorem isName_calls (t : List UInt8) (ht : t.length ≤ 100000) (w : World) (hw : Tabs w) :
    Calls Tryz.prog 41 #[.string (bs t)] w fun e w' => e = .returned (.bool (isNm t)) ∧ Below w.heap.size w w' := by
  have HN := Lib.hid (tnext_calls (bs t) (by rw [bs_size]; exact ht) 0 (by omega) w hw)
  rw [bs_toList] at HN
  have HB := Lib.hid (isNm_b t)
  have hsz : (bs t).size = t.length := bs_size t
  unfold tokV at HN
  generalize nextBad t 0 = b at HN HB
  generalize (nextT t 0).kind = k at HN HB
  generalize (nextT t 0).lo = lo at HN HB
  generalize (nextT t 0).hi = hi at HN HB
  generalize isNm t = r at HB ⊢
  generalize hb : badC b = c at HN
  have HC := Lib.hid hb
  have HZ := Lib.hid hsz
  clear hb hsz hw
  go_enter Tryz.func41, Tryz.ntmps41
  go_wp2_with (go_at_call 63; refine HN.out.mono ?_; rintro e w1 ⟨rfl, hB1⟩; have HB1 := Lib.hid hB1; clear hB1)
  all_goals
    have hc := HC.out
    have hz := HZ.out
    clear HN
    go_ret
    refine ⟨ret_bool ?_, ?_⟩
    · rw [HB.out, Bool.eq_iff_iff]
      unfold badC at hc
      cases b <;> simp at hc ⊢ <;> omega
    · exact (HB1.out.alloc HB1.out.size _).alloc (Nat.le_trans HB1.out.size (by simp)) _


def prB (p : PrM) : Bool := decide (0 ≤ p.par) && decide (p.par ≤ p.slo) && decide (p.slo ≤ 64) && (p.typ == 1 || p.typ == 4) && isNm p.name
theorem prB_iff (p : PrM) : prB p = true ↔ prOk p := by
  unfold prB prOk
  simp [and_assoc]
set_option maxRecDepth 100000 in
set_option maxHeartbeats 1000000 in
theorem prFits_calls (p : PrM) (hn : p.name.length ≤ 100000) (w : World) (hw : Tabs w) :
    Calls Tryz.prog 54 #[prV p] w fun e w' => e = .returned (.bool (prB p)) ∧ Below w.heap.size w w' := by
  have HN := Lib.hid (fun W (hW : Tabs W) => isName_calls p.name hn W hW)
  have HT := Lib.hid (fun o => hw.below ((Below.refl w.heap.size w).alloc (Nat.le_refl _) o) hw.2.2)
  have HB := Lib.hid (show prB p = (decide (0 ≤ p.par) && decide (p.par ≤ p.slo) && decide (p.slo ≤ 64) && (p.typ == 1 || p.typ == 4) && isNm p.name) from rfl)
  unfold prV
  generalize prB p = r at HB ⊢
  generalize isNm p.name = q at HB HN
  clear hw
  go_enter Tryz.func54, Tryz.ntmps54
  go_wp2_with (go_at_call 41; refine (HN.out _ (HT.out _)).mono ?_; rintro e w1 ⟨rfl, hB1⟩; have HB1 := Lib.hid hB1; clear hB1)
  all_goals
    clear HN HT
    go_ret
    refine ⟨ret_bool ?_, ?_⟩
    · rw [HB.out, Bool.eq_iff_iff]
      simp
      try omega
    · first
        | exact ((Below.refl _ w).alloc (Nat.le_refl _) _).trans (HB1.out.mono (by simp))
        | exact (Below.refl _ w).alloc (Nat.le_refl _) _

end Go.Proofs.YthkpnbekkoompabGreatDoor

namespace Go.Proofs.YthkpnbekkoompabGreatDoor
open Go.RowKit

def inB (p : PrM) (np : Nat) (x : InM) : Bool := (decide (1 ≤ x.op) && decide (x.op ≤ 29)) && (decide (loM (akL.getD x.op.toNat 0) p ≤ x.arg) && decide (x.arg ≤ hiM (akL.getD x.op.toNat 0) p np)) && morB x
theorem inB_iff (p : PrM) (np : Nat) (x : InM) (hf : x.fit) : inB p np x = true ↔ inOk p np x := by
  unfold inB inOk
  rw [Bool.and_eq_true, Bool.and_eq_true, morB_iff]
  simp only [Bool.and_eq_true, decide_eq_true_eq]
  constructor
  · intro ⟨⟨h1, h2⟩, h3⟩
    exact ⟨h1, (argOk_iff p np x h1.1 h1.2 hf.2.1).2 h2, h3⟩
  · intro ⟨h1, h2, h3⟩
    exact ⟨⟨h1, (argOk_iff p np x h1.1 h1.2 hf.2.1).1 h2⟩, h3⟩
theorem akL_in (k : Nat) : 0 ≤ akL.getD k 0 ∧ akL.getD k 0 ≤ 7 := by
  by_cases h : k < 30
  · have key : ∀ k : Fin 30, 0 ≤ akL.getD k.1 0 ∧ akL.getD k.1 0 ≤ 7 := by decide
    exact key ⟨k, h⟩
  · rw [List.getD_eq_getElem?_getD, List.getElem?_eq_none (by simp [akL]; omega)]; simp
theorem two_fst (w : World) (cs ds : Array Value) (t u : TypeId) (o : Nat) : ((w.alloc (.cells cs t)).alloc (.cells ds u)).cell? ⟨w.heap.size, o, none⟩ = cs[o]? := by
  have h := (Below.heap_alloc (w.alloc (.cells cs t)) (.cells ds u) w.heap.size (by simp)).trans (heapOne w cs t)
  exact cellC h o
theorem two_snd (w : World) (c : Obj) (ds : Array Value) (u : TypeId) (o : Nat) : ((w.alloc c).alloc (.cells ds u)).cell? ⟨w.heap.size + 1, o, none⟩ = ds[o]? := by
  have h := heapOne (w.alloc c) ds u
  rw [World.size_alloc] at h
  exact cellC h o

set_option maxRecDepth 100000 in
set_option maxHeartbeats 2000000 in
theorem insFits_out (x : InM) (p : PrM) (np : Nat) (w : World) (hx : ¬ (1 ≤ x.op ∧ x.op ≤ 29)) :
    Calls Tryz.prog 55 #[inV x, prV p, .int .i64 (np : Int)] w fun e w' => e = .returned (.bool (inB p np x)) ∧ Below w.heap.size w w' := by
  have e : inB p np x = false := by
    unfold inB
    have : (decide (1 ≤ x.op) && decide (x.op ≤ 29)) = false := by rw [Bool.eq_false_iff]; simp; omega
    rw [this]; simp
  rw [e]
  unfold inV prV
  have hd : (decide (x.op < 1) = true) ∨ (decide (x.op < 1) = false ∧ decide (29 < x.op) = true) := by
    by_cases h : x.op < 1
    · exact .inl (decide_eq_true h)
    · exact .inr ⟨decide_eq_false h, decide_eq_true (by omega)⟩
  clear hx e
  rcases hd with h1 | ⟨h1, h2⟩
  all_goals
    go_enter Tryz.func55, Tryz.ntmps55
    go_wp2
    go_ret
    exact ⟨rfl, ((Below.refl _ _).alloc (Nat.le_refl _) _).alloc (by simp) _⟩

set_option maxRecDepth 100000 in
set_option maxHeartbeats 2000000 in
theorem insFits_in (x : InM) (p : PrM) (np : Nat) (w : World) (k : Nat) (hx : x.op = (k : Int)) (h1 : 1 ≤ k) (h2 : k ≤ 29) (hp : p.mild) (hn : np ≤ maxLen) (hS : Shp w) :
    Calls Tryz.prog 55 #[inV x, prV p, .int .i64 (np : Int)] w fun e w' => e = .returned (.bool (inB p np x)) ∧ Below w.heap.size w w' := by
  have HA := Lib.hid (fun W => argsOf_calls (akL.getD k 0) p np W (akL_in k) hp hn)
  have HM := Lib.hid (fun W => moreFits_calls x W)
  have HI : Hid (inB p np x = ((decide (loM (akL.getD k 0) p ≤ x.arg) && decide (x.arg ≤ hiM (akL.getD k 0) p np)) && morB x)) := Lib.hid (by
    unfold inB
    rw [hx]
    have e1 : (decide ((1 : Int) ≤ (k : Int)) && decide ((k : Int) ≤ 29)) = true := by simp; omega
    have e2 : (k : Int).toNat = k := by omega
    rw [e1, e2, Bool.true_and])
  have hsh := (hS.1 k (by omega)).2.1
  have hgl := hS.2
  unfold inV at HM ⊢
  unfold prV at HA ⊢
  rw [hx] at HM ⊢
  generalize akL.getD k 0 = kd at *
  generalize loM kd p = lo at *
  generalize hiM kd p np = hi at *
  generalize morB x = mb at *
  generalize inB p np x = r at *
  have g0 : (0 : Int) ≤ (k : Int) := by omega
  have g1 : (k : Int) < 30 := by omega
  have c1 : decide ((k : Int) < 1) = false := decide_eq_false (by omega)
  have c1' : decide (k < 1) = false := decide_eq_false (by omega)
  have c2 : decide ((29 : Int) < (k : Int)) = false := decide_eq_false (by omega)
  have c2' : decide (29 < k) = false := decide_eq_false (by omega)
  have HB0 := Lib.hid (((Below.refl w.heap.size w).alloc (Nat.le_refl _) (.cells #[.int .i64 (k : Int), .int .i64 x.arg, .int .i64 x.mor] 42)).alloc (by simp) (.cells #[.string (bs p.name), .int .i64 p.frm, .int .i64 p.to, .int .i64 p.par, .int .i64 p.slo, .int .i64 p.typ] 56))
  have hf := two_fst w #[.int .i64 (k : Int), .int .i64 x.arg, .int .i64 x.mor] #[.string (bs p.name), .int .i64 p.frm, .int .i64 p.to, .int .i64 p.par, .int .i64 p.slo, .int .i64 p.typ] 42 56
  have hs := two_snd w (.cells #[.int .i64 (k : Int), .int .i64 x.arg, .int .i64 x.mor] 42) #[.string (bs p.name), .int .i64 p.frm, .int .i64 p.to, .int .i64 p.par, .int .i64 p.slo, .int .i64 p.typ] 56
  have HF := Lib.hid hf
  have HS2 := Lib.hid hs
  have HSH := Lib.hid hsh
  clear hx hS hp hn h1 h2 hf hs hsh
  go_enter Tryz.func55, Tryz.ntmps55
  go_wp2_with fail
  generalize (w.alloc (.cells #[.int .i64 (k : Int), .int .i64 x.arg, .int .i64 x.mor] 42)).alloc (.cells #[.string (bs p.name), .int .i64 p.frm, .int .i64 p.to, .int .i64 p.par, .int .i64 p.slo, .int .i64 p.typ] 56) = W0 at *
  have d0 : W0.drew.cell? ⟨w.heap.size, 0, none⟩ = some (.int .i64 (k : Int)) := HF.out 0
  have d1 : W0.drew.cell? ⟨w.heap.size, 1, none⟩ = some (.int .i64 x.arg) := HF.out 1
  have d2 : W0.drew.cell? ⟨w.heap.size, 2, none⟩ = some (.int .i64 x.mor) := HF.out 2
  have p0 : W0.drew.cell? ⟨w.heap.size + 1, 0, none⟩ = some (.string (bs p.name)) := HS2.out 0
  have p1 : W0.drew.cell? ⟨w.heap.size + 1, 1, none⟩ = some (.int .i64 p.frm) := HS2.out 1
  have p2 : W0.drew.cell? ⟨w.heap.size + 1, 2, none⟩ = some (.int .i64 p.to) := HS2.out 2
  have p3 : W0.drew.cell? ⟨w.heap.size + 1, 3, none⟩ = some (.int .i64 p.par) := HS2.out 3
  have p4 : W0.drew.cell? ⟨w.heap.size + 1, 4, none⟩ = some (.int .i64 p.slo) := HS2.out 4
  have p5 : W0.drew.cell? ⟨w.heap.size + 1, 5, none⟩ = some (.int .i64 p.typ) := HS2.out 5
  have s1 : W0.drew.cell? ⟨0, k * 4 + 1, none⟩ = some (.int .i64 kd) := keepC HB0.out.drew HSH.out hgl
  have HBc := Lib.hid HB0.out.drew
  go_region_held3 (fun w' => w'.cell? ⟨w.heap.size, 0, none⟩ = some (.int .i64 (k : Int)) ∧ w'.cell? ⟨w.heap.size, 1, none⟩ = some (.int .i64 x.arg) ∧ w'.cell? ⟨w.heap.size, 2, none⟩ = some (.int .i64 x.mor) ∧ w'.cell? ⟨w.heap.size + 1, 0, none⟩ = some (.string (bs p.name)) ∧ w'.cell? ⟨w.heap.size + 1, 1, none⟩ = some (.int .i64 p.frm) ∧ w'.cell? ⟨w.heap.size + 1, 2, none⟩ = some (.int .i64 p.to) ∧ w'.cell? ⟨w.heap.size + 1, 3, none⟩ = some (.int .i64 p.par) ∧ w'.cell? ⟨w.heap.size + 1, 4, none⟩ = some (.int .i64 p.slo) ∧ w'.cell? ⟨w.heap.size + 1, 5, none⟩ = some (.int .i64 p.typ) ∧ w'.cell? ⟨0, k * 4 + 1, none⟩ = some (.int .i64 kd))
      (with_reducible exact ⟨d0, d1, d2, p0, p1, p2, p3, p4, p5, s1⟩)
      ((go_at_call 72; refine (HA.out _).mono ?_; rintro e w5 ⟨rfl, hb5⟩; have HBc := Lib.hid (HBc.out.trans (hb5.mono HBc.out.size)); have d0 := keepC hb5 d0 (ltC d0); have d1 := keepC hb5 d1 (ltC d1); have d2 := keepC hb5 d2 (ltC d2); have p0 := keepC hb5 p0 (ltC p0); have p1 := keepC hb5 p1 (ltC p1); have p2 := keepC hb5 p2 (ltC p2); have p3 := keepC hb5 p3 (ltC p3); have p4 := keepC hb5 p4 (ltC p4); have p5 := keepC hb5 p5 (ltC p5); have s1 := keepC hb5 s1 (ltC s1); clear hb5))
  all_goals
    clear p0 p1 p2 p3 p4 p5 s1
    go_wp2_with (go_at_call 73; refine (HM.out _).mono ?_; rintro e w6 ⟨rfl, hb6⟩; have HBc := Lib.hid (HBc.out.trans (hb6.mono HBc.out.size)); clear hb6)
    all_goals
      clear HA HM
      go_ret
      refine ⟨ret_bool ?_, HBc.out⟩
      rw [HI.out, Bool.eq_iff_iff]
      simp
      try omega

end Go.Proofs.YthkpnbekkoompabGreatDoor

namespace Go.Proofs.YthkpnbekkoompabGreatDoor
open Go.RowKit

def ordCB (c : CoM) : Bool := decide (0 < c.ps.length) && decide (ordB 0 c.ps = some (c.is.length : Int))
theorem ordCB_iff (c : CoM) : ordCB c = true ↔ ordC c := by
  unfold ordCB ordC
  simp [List.length_pos_iff]
theorem ordB_step (e : Int) (ps : List PrM) (k : Nat) (h : k < ps.length) : ordB e (ps.drop k) = if (ps[k]).frm = e ∧ e < (ps[k]).to then ordB (ps[k]).to (ps.drop (k + 1)) else none := by
  rw [List.drop_eq_getElem_cons h]; rfl

set_option maxRecDepth 100000 in
set_option maxHeartbeats 2000000 in
theorem inOrder_calls (c : CoM) (A A2 : Option Addr) (c1 c2 : Nat) (w : World) (hc : CoAt w w.heap.size A c1 A2 c2 c) :
    Calls Tryz.prog 36 #[coV A c1 A2 c2 c] w fun e w' => e = .returned (.bool (ordCB c)) ∧ Below w.heap.size w w' := by
  have hfew := hc.few
  have hcp := hc.capP
  have hci := hc.capI
  unfold maxLen at hfew
  have HC := Lib.hid hc
  have HO := Lib.hid (show ordCB c = (decide (0 < c.ps.length) && decide (ordB 0 c.ps = some (c.is.length : Int))) from rfl)
  unfold coV
  generalize ordCB c = r at HO ⊢
  have HB0 := Lib.hid ((Below.refl w.heap.size w).alloc (Nat.le_refl _) (.cells #[.slice A c.ps.length c1, .slice A2 c.is.length c2] 26))
  have HX := Lib.hid (heapOne w #[.slice A c.ps.length c1, .slice A2 c.is.length c2] 26)
  clear hc
  go_enter Tryz.func36, Tryz.ntmps36
  go_wp2
  generalize w.alloc (.cells #[.slice A c.ps.length c1, .slice A2 c.is.length c2] 26) = W0 at *
  have hsz0 : w.heap.size < W0.heap.size := (Array.getElem?_eq_some_iff.1 HX.out).1
  go_loopw [3, 9] (fun v i wr => ∃ (k : Nat) (e : Int), k ≤ c.ps.length ∧ i = .int .i64 k ∧ v = .int .i64 e ∧ Hid (ordB 0 c.ps = ordB e (c.ps.drop k)) ∧ Hid (Below W0.heap.size W0 wr)) (fun _ i _ => c.ps.length - (intOf i).toNat)
  case atStart => exact ⟨0, 0, by omega, rfl, rfl, Lib.hid (by rw [List.drop_zero]), Lib.hid (Below.refl _ _)⟩
  case round =>
    obtain ⟨k, e, hk, rfl, rfl, HR, HB⟩ := hrel
    have x0 : wr.cell? ⟨w.heap.size, 0, none⟩ = some (.slice A c.ps.length c1) := keepC HB.out (cellC HX.out 0) hsz0
    have x1 : wr.cell? ⟨w.heap.size, 1, none⟩ = some (.slice A2 c.is.length c2) := keepC HB.out (cellC HX.out 1) hsz0
    by_cases hlt : k < c.ps.length
    · obtain ⟨b, off, rfl, hb, hcells⟩ := (HC.out.prs) (by omega)
      obtain ⟨q0, q1, q2, q3, q4, q5⟩ := hcells k hlt
      have kk : ∀ {o : Nat} {u : Value}, w.cell? ⟨b, o, none⟩ = some u → wr.cell? ⟨b, o, none⟩ = some u := fun hq => keepC HB.out (keepC HB0.out hq hb) (by omega)
      have q0 := kk q0
      have q1 := kk q1
      have q2 := kk q2
      have q3 := kk q3
      have q4 := kk q4
      have q5 := kk q5
      have HS := Lib.hid (ordB_step e c.ps k hlt)
      generalize c.ps[k] = p at *
      have hk0 : (0 : Int) ≤ (k : Int) := by omega
      have hk1 : (k : Int) < (c.ps.length : Int) := by omega
      clear kk hcells
      go_wp2
      all_goals first
        | (go_ret
           exact ⟨ret_bool (by rw [HO.out, HR.out, HS.out, if_neg (by omega)]; simp), (HB0.out.trans (HB.out.mono (by omega))).alloc (by have := HB.out.size; omega) _⟩)
        | (have HR2 : Hid (ordB 0 c.ps = ordB p.to (c.ps.drop (k + 1))) := Lib.hid (by rw [HR.out, HS.out, if_pos (by omega)])
           go_roundw
           case rel => exact ⟨k + 1, p.to, by omega, by go_num, rfl, HR2, Lib.hid (HB.out.alloc HB.out.size _)⟩
           case measure => simp [intOf]; omega)
    · obtain rfl : k = c.ps.length := by omega
      have HR2 : Hid (ordB 0 c.ps = some e) := Lib.hid (by rw [HR.out, List.drop_length]; rfl)
      clear hlt hk HR
      go_wp2
      all_goals
        go_ret
        refine ⟨ret_bool ?_, HB0.out.trans (HB.out.mono (by omega))⟩
        rw [HO.out, HR2.out, Bool.eq_iff_iff]
        simp
        try omega

end Go.Proofs.YthkpnbekkoompabGreatDoor
