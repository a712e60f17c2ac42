/-
  code: may an instruction be (but for heights).
-/
import Derived.Test.YtbhlockoeiedcaaGreatDoorCoC
namespace Go.Proofs.YtbhlockoeiedcaaGreatDoor
open Go.RowKit

def inB (p : PrM) (np : Nat) (x : InM) : Bool := (decide (1 ≤ x.op) && decide (x.op ≤ 29)) && (decide (loM (akL.getD x.op.toNat 0) p ≤ x.arg) && decide (x.arg ≤ hiM (akL.getD x.op.toNat 0) p np)) && morB x
theorem inB_iff (p : PrM) (np : Nat) (x : InM) (hf : x.fit) : inB p np x = true ↔ inOk p np x := by
  unfold inB inOk
  rw [Bool.and_eq_true, Bool.and_eq_true, morB_iff]
  simp only [Bool.and_eq_true, decide_eq_true_eq]
  constructor
  · intro ⟨⟨h1, h2⟩, h3⟩
    exact ⟨h1, (argOk_iff p np x h1.1 h1.2 hf.2.1).2 h2, h3⟩
  · intro ⟨h1, h2, h3⟩
    exact ⟨⟨h1, (argOk_iff p np x h1.1 h1.2 hf.2.1).1 h2⟩, h3⟩
theorem akL_in (k : Nat) : 0 ≤ akL.getD k 0 ∧ akL.getD k 0 ≤ 7 := by
  by_cases h : k < 30
  · have key : ∀ k : Fin 30, 0 ≤ akL.getD k.1 0 ∧ akL.getD k.1 0 ≤ 7 := by decide
    exact key ⟨k, h⟩
  · rw [List.getD_eq_getElem?_getD, List.getElem?_eq_none (by simp [akL]; omega)]; simp
theorem two_fst (w : World) (cs ds : Array Value) (t u : TypeId) (o : Nat) : ((w.alloc (.cells cs t)).alloc (.cells ds u)).cell? ⟨w.heap.size, o, none⟩ = cs[o]? := by
  have h := (Below.heap_alloc (w.alloc (.cells cs t)) (.cells ds u) w.heap.size (by simp)).trans (heapOne w cs t)
  exact cellC h o
theorem two_snd (w : World) (c : Obj) (ds : Array Value) (u : TypeId) (o : Nat) : ((w.alloc c).alloc (.cells ds u)).cell? ⟨w.heap.size + 1, o, none⟩ = ds[o]? := by
  have h := heapOne (w.alloc c) ds u
  rw [World.size_alloc] at h
  exact cellC h o

set_option maxRecDepth 100000 in
set_option maxHeartbeats 2000000 in
theorem insFits_out (x : InM) (p : PrM) (np : Nat) (w : World) (hx : ¬ (1 ≤ x.op ∧ x.op ≤ 29)) :
    Calls Tryz.prog 49 #[inV x, prV p, .int .i64 (np : Int)] w fun e w' => e = .returned (.bool (inB p np x)) ∧ Below w.heap.size w w' := by
  have e : inB p np x = false := by
    unfold inB
    have : (decide (1 ≤ x.op) && decide (x.op ≤ 29)) = false := by rw [Bool.eq_false_iff]; simp; omega
    rw [this]; simp
  rw [e]
  unfold inV prV
  have hd : (decide (x.op < 1) = true) ∨ (decide (x.op < 1) = false ∧ decide (29 < x.op) = true) := by
    by_cases h : x.op < 1
    · exact .inl (decide_eq_true h)
    · exact .inr ⟨decide_eq_false h, decide_eq_true (by omega)⟩
  clear hx e
  rcases hd with h1 | ⟨h1, h2⟩
  all_goals
    go_enter Tryz.func49, Tryz.ntmps49
    go_wp2
    go_ret
    exact ⟨rfl, ((Below.refl _ _).alloc (Nat.le_refl _) _).alloc (by simp) _⟩

set_option maxRecDepth 100000 in
set_option maxHeartbeats 2000000 in
theorem insFits_in (x : InM) (p : PrM) (np : Nat) (w : World) (k : Nat) (hx : x.op = (k : Int)) (h1 : 1 ≤ k) (h2 : k ≤ 29) (hp : p.mild) (hn : np ≤ maxLen) (hS : Shp w) :
    Calls Tryz.prog 49 #[inV x, prV p, .int .i64 (np : Int)] w fun e w' => e = .returned (.bool (inB p np x)) ∧ Below w.heap.size w w' := by
  have HA := Lib.hid (fun W => argsOf_calls (akL.getD k 0) p np W (akL_in k) hp hn)
  have HM := Lib.hid (fun W => moreFits_calls x W)
  have HI : Hid (inB p np x = ((decide (loM (akL.getD k 0) p ≤ x.arg) && decide (x.arg ≤ hiM (akL.getD k 0) p np)) && morB x)) := Lib.hid (by
    unfold inB
    rw [hx]
    have e1 : (decide ((1 : Int) ≤ (k : Int)) && decide ((k : Int) ≤ 29)) = true := by simp; omega
    have e2 : (k : Int).toNat = k := by omega
    rw [e1, e2, Bool.true_and])
  have hsh := (hS.1 k (by omega)).2.1
  have hgl := hS.2
  unfold inV at HM ⊢
  unfold prV at HA ⊢
  rw [hx] at HM ⊢
  generalize akL.getD k 0 = kd at *
  generalize loM kd p = lo at *
  generalize hiM kd p np = hi at *
  generalize morB x = mb at *
  generalize inB p np x = r at *
  have g0 : (0 : Int) ≤ (k : Int) := by omega
  have g1 : (k : Int) < 30 := by omega
  have c1 : decide ((k : Int) < 1) = false := decide_eq_false (by omega)
  have c1' : decide (k < 1) = false := decide_eq_false (by omega)
  have c2 : decide ((29 : Int) < (k : Int)) = false := decide_eq_false (by omega)
  have c2' : decide (29 < k) = false := decide_eq_false (by omega)
  have HB0 := Lib.hid (((Below.refl w.heap.size w).alloc (Nat.le_refl _) (.cells #[.int .i64 (k : Int), .int .i64 x.arg, .int .i64 x.mor] 62)).alloc (by simp) (.cells #[.string (bs p.name), .int .i64 p.frm, .int .i64 p.to, .int .i64 p.par, .int .i64 p.slo, .int .i64 p.typ] 64))
  have hf := two_fst w #[.int .i64 (k : Int), .int .i64 x.arg, .int .i64 x.mor] #[.string (bs p.name), .int .i64 p.frm, .int .i64 p.to, .int .i64 p.par, .int .i64 p.slo, .int .i64 p.typ] 62 64
  have hs := two_snd w (.cells #[.int .i64 (k : Int), .int .i64 x.arg, .int .i64 x.mor] 62) #[.string (bs p.name), .int .i64 p.frm, .int .i64 p.to, .int .i64 p.par, .int .i64 p.slo, .int .i64 p.typ] 64
  have HF := Lib.hid hf
  have HS2 := Lib.hid hs
  have HSH := Lib.hid hsh
  clear hx hS hp hn h1 h2 hf hs hsh
  go_enter Tryz.func49, Tryz.ntmps49
  go_wp2_with fail
  generalize (w.alloc (.cells #[.int .i64 (k : Int), .int .i64 x.arg, .int .i64 x.mor] 62)).alloc (.cells #[.string (bs p.name), .int .i64 p.frm, .int .i64 p.to, .int .i64 p.par, .int .i64 p.slo, .int .i64 p.typ] 64) = W0 at *
  have d0 : W0.drew.cell? ⟨w.heap.size, 0, none⟩ = some (.int .i64 (k : Int)) := HF.out 0
  have d1 : W0.drew.cell? ⟨w.heap.size, 1, none⟩ = some (.int .i64 x.arg) := HF.out 1
  have d2 : W0.drew.cell? ⟨w.heap.size, 2, none⟩ = some (.int .i64 x.mor) := HF.out 2
  have p0 : W0.drew.cell? ⟨w.heap.size + 1, 0, none⟩ = some (.string (bs p.name)) := HS2.out 0
  have p1 : W0.drew.cell? ⟨w.heap.size + 1, 1, none⟩ = some (.int .i64 p.frm) := HS2.out 1
  have p2 : W0.drew.cell? ⟨w.heap.size + 1, 2, none⟩ = some (.int .i64 p.to) := HS2.out 2
  have p3 : W0.drew.cell? ⟨w.heap.size + 1, 3, none⟩ = some (.int .i64 p.par) := HS2.out 3
  have p4 : W0.drew.cell? ⟨w.heap.size + 1, 4, none⟩ = some (.int .i64 p.slo) := HS2.out 4
  have p5 : W0.drew.cell? ⟨w.heap.size + 1, 5, none⟩ = some (.int .i64 p.typ) := HS2.out 5
  have s1 : W0.drew.cell? ⟨0, k * 4 + 1, none⟩ = some (.int .i64 kd) := keepC HB0.out.drew HSH.out hgl
  have HBc := Lib.hid HB0.out.drew
  go_region_held3 (fun w' => w'.cell? ⟨w.heap.size, 0, none⟩ = some (.int .i64 (k : Int)) ∧ w'.cell? ⟨w.heap.size, 1, none⟩ = some (.int .i64 x.arg) ∧ w'.cell? ⟨w.heap.size, 2, none⟩ = some (.int .i64 x.mor) ∧ w'.cell? ⟨w.heap.size + 1, 0, none⟩ = some (.string (bs p.name)) ∧ w'.cell? ⟨w.heap.size + 1, 1, none⟩ = some (.int .i64 p.frm) ∧ w'.cell? ⟨w.heap.size + 1, 2, none⟩ = some (.int .i64 p.to) ∧ w'.cell? ⟨w.heap.size + 1, 3, none⟩ = some (.int .i64 p.par) ∧ w'.cell? ⟨w.heap.size + 1, 4, none⟩ = some (.int .i64 p.slo) ∧ w'.cell? ⟨w.heap.size + 1, 5, none⟩ = some (.int .i64 p.typ) ∧ w'.cell? ⟨0, k * 4 + 1, none⟩ = some (.int .i64 kd))
      (with_reducible exact ⟨d0, d1, d2, p0, p1, p2, p3, p4, p5, s1⟩)
      ((go_at_call 75; refine (HA.out _).mono ?_; rintro e w5 ⟨rfl, hb5⟩; have HBc := Lib.hid (HBc.out.trans (hb5.mono HBc.out.size)); have d0 := keepC hb5 d0 (ltC d0); have d1 := keepC hb5 d1 (ltC d1); have d2 := keepC hb5 d2 (ltC d2); have p0 := keepC hb5 p0 (ltC p0); have p1 := keepC hb5 p1 (ltC p1); have p2 := keepC hb5 p2 (ltC p2); have p3 := keepC hb5 p3 (ltC p3); have p4 := keepC hb5 p4 (ltC p4); have p5 := keepC hb5 p5 (ltC p5); have s1 := keepC hb5 s1 (ltC s1); clear hb5))
  all_goals
    clear p0 p1 p2 p3 p4 p5 s1
    go_wp2_with (go_at_call 76; refine (HM.out _).mono ?_; rintro e w6 ⟨rfl, hb6⟩; have HBc := Lib.hid (HBc.out.trans (hb6.mono HBc.out.size)); clear hb6)
    all_goals
      clear HA HM
      go_ret
      refine ⟨ret_bool ?_, HBc.out⟩
      rw [HI.out, Bool.eq_iff_iff]
      simp
      try omega

end Go.Proofs.YtbhlockoeiedcaaGreatDoor
