/-
  code: a finder in memory; what an instruction takes and leaves.
-/
import Derived.Test.YtbhlockoeiedcaaGreatDoorCoG
import Derived.Laws.AppendOwn
import Derived.OwnWalk
namespace Go.Proofs.YtbhlockoeiedcaaGreatDoor
open Go.RowKit

def intsL (hs : List Int) : List Value := hs.map fun x => Value.int .i64 x
def wsL (ws : List Nat) : List Value := ws.map fun (x : Nat) => Value.int .i64 (x : Int)
theorem Tryz.infoInt : (Tryz.prog.info? 3).map (fun i => (i.zero, i.size, i.bytes)) = some (some (.int .i64 0), 1, 8) := by kernel_rfl
/-- A finder: its code, its procedure, the heights, those that wait. -/
structure Fd (c : CoM) (A : Option Addr) (c1 : Nat) (A2 : Option Addr) (c2 : Nat) (p : PrM) (q gH f : Nat) (hs : List Int) (vW : Value) (ws : List Nat) (w : World) : Prop where
  box : w.heap[f]? = some (.cells #[.slice A c.ps.length c1, .slice A2 c.is.length c2, .string (bs p.name), .int .i64 p.frm, .int .i64 p.to, .int .i64 p.par, .int .i64 p.slo, .int .i64 p.typ, .slice (some ⟨gH, 0, none⟩) hs.length hs.length, vW] 68 (0, 0))
  hts : w.heap[gH]? = some (.cells (intsL hs).toArray 3 (0, 0))
  wait : w.ownsRow (f + 1) 3 1 vW ws.length (wsL ws)
  co : CoAt w q A c1 A2 c2 c
  shp : Shp w
  lt : 0 < q ∧ q ≤ gH ∧ gH < f
  len : hs.length = c.is.length
  few : c.is.length ≤ 100000
section
variable {c : CoM} {A A2 : Option Addr} {c1 c2 : Nat} {p : PrM} {q gH f : Nat} {hs : List Int} {vW : Value} {ws : List Nat} {w : World}
theorem own_keepC {w w' : World} {base n : Nat} {e : TypeId} {size : Nat} {v : Value} {xs : List Value} (h : w.ownsRow base e size v n xs) (hk : ∀ g, v.ownBlock = some g → w'.heap[g]? = w.heap[g]?) : w'.ownsRow base e size v n xs := by
  refine ⟨h.1, ?_⟩
  rcases h.2 with h0 | ⟨g, cap, cur, rfl, hb, hg, h1, h2, h3, h4⟩
  · exact .inl h0
  · exact .inr ⟨g, cap, cur, rfl, hb, by rw [hk g rfl]; exact hg, h1, h2, h3, h4⟩
theorem own_ltC {w : World} {base n : Nat} {e : TypeId} {size : Nat} {v : Value} {xs : List Value} (h : w.ownsRow base e size v n xs) (g : Nat) (hg : v.ownBlock = some g) : base ≤ g ∧ g < w.heap.size := h.lt g hg
theorem blkLt {w : World} {B : Nat} {o : Obj} (h : w.heap[B]? = some o) : B < w.heap.size := (Array.getElem?_eq_some_iff.1 h).1
theorem Fd.flt (h : Fd c A c1 A2 c2 p q gH f hs vW ws w) : f < w.heap.size := blkLt h.box
theorem Fd.below {w' : World} (h : Fd c A c1 A2 c2 p q gH f hs vW ws w) (hb : Below w.heap.size w w') : Fd c A c1 A2 c2 p q gH f hs vW ws w' := by
  have h1 := h.flt
  have h2 := h.lt
  exact ⟨(hb.block f h1).trans h.box, (hb.block gH (by omega)).trans h.hts, own_keepC h.wait fun g hg => hb.block g (h.wait.lt g hg).2, h.co.below hb (by omega), h.shp.below hb, h.lt, h.len, h.few⟩
theorem Fd.cells (h : Fd c A c1 A2 c2 p q gH f hs vW ws w) : w.cell? ⟨f, 0, none⟩ = some (.slice A c.ps.length c1) ∧ w.cell? ⟨f, 1, none⟩ = some (.slice A2 c.is.length c2) ∧ w.cell? ⟨f, 3, none⟩ = some (.int .i64 p.frm) ∧ w.cell? ⟨f, 4, none⟩ = some (.int .i64 p.to) ∧ w.cell? ⟨f, 8, none⟩ = some (.slice (some ⟨gH, 0, none⟩) hs.length hs.length) ∧ w.cell? ⟨f, 9, none⟩ = some vW ∧ (∀ o, w.frozen? ⟨f, o, none⟩ = false) :=
  ⟨cellC h.box 0, cellC h.box 1, cellC h.box 3, cellC h.box 4, cellC h.box 8, cellC h.box 9, fun o => by simp [World.frozen?, h.box]⟩
theorem Fd.at (h : Fd c A c1 A2 c2 p q gH f hs vW ws w) (i : Nat) (hi : i < hs.length) : w.cell? ⟨gH, i, none⟩ = some (.int .i64 (hAt hs i)) ∧ w.frozen? ⟨gH, i, none⟩ = false := by
  refine ⟨?_, by simp [World.frozen?, h.hts]⟩
  rw [cellC h.hts i]
  unfold intsL hAt
  rw [List.getD_eq_getElem?_getD, List.getElem?_eq_getElem hi]
  simp [hi]
end

theorem inOk_call {p : PrM} {np : Nat} {x : InM} (h : inOk p np x) (e : x.op = 26) : ∃ k : Nat, x.arg = (k : Int) ∧ k < np := by
  have ha := h.2.1
  unfold argOk at ha
  rw [if_neg (by omega), if_neg (by omega), if_neg (by omega), if_neg (by omega), if_pos e] at ha
  exact ⟨x.arg.toNat, by omega, by omega⟩

section
variable {c : CoM} {A A2 : Option Addr} {c1 c2 : Nat} {p : PrM} {q gH f : Nat} {hs : List Int} {vW : Value} {ws : List Nat} {w : World}
set_option maxRecDepth 100000 in
set_option maxHeartbeats 2000000 in
theorem takes_calls (h : Fd c A c1 A2 c2 p q gH f hs vW ws w) (x : InM) (hx : inOk p c.ps.length x) :
    Calls Tryz.prog 79 #[.pointer (some ⟨f, 0, none⟩), inV x] w fun e w' => e = .returned (.int .i64 (takesM c x)) ∧ Below w.heap.size w w' := by
  unfold inV takesM
  obtain ⟨d0, _⟩ := h.cells
  have hfl := h.flt
  have hql := h.lt
  by_cases h26 : x.op = 26
  · rw [if_pos h26, h26]
    obtain ⟨k, hk, hkl⟩ := inOk_call hx h26
    rw [hk]
    obtain ⟨b, off, rfl, hb, hcells⟩ := h.co.prs (by omega)
    have g3 := (hcells k hkl).2.2.2.1
    have e : c.ps.getD (k : Int).toNat noPr = c.ps[k] := by
      have : (k : Int).toNat = k := by omega
      rw [this, List.getD_eq_getElem?_getD, List.getElem?_eq_getElem hkl]; rfl
    rw [e]
    clear e hcells hx h26 hk
    generalize c.ps[k] = y at *
    have g3 := fun o => newC g3 o
    have d0 := fun o => newC d0 o
    have hk0 : (0 : Int) ≤ (k : Int) := by omega
    have hk1 : (k : Int) < (c.ps.length : Int) := by omega
    clear h
    go_enter Tryz.func79, Tryz.ntmps79
    go_wp2
    go_quiet (fail)
    go_wp2
    go_ret
    exact ⟨rfl, below_drewC ((Below.refl _ _).alloc (Nat.le_refl _) _) _⟩
  · rw [if_neg h26]
    have e1 : (x.op == 26) = false := beq_eq_false_iff_ne.2 h26
    by_cases h27 : x.op = 27
    · rw [if_pos h27]
      have e2 : (x.op == 27) = true := beq_iff_eq.2 h27
      clear h26 h27 h hx d0
      go_enter Tryz.func79, Tryz.ntmps79
      go_wp2
      go_ret
      exact ⟨rfl, (Below.refl _ _).alloc (Nat.le_refl _) _⟩
    · rw [if_neg h27]
      have e2 : (x.op == 27) = false := beq_eq_false_iff_ne.2 h27
      obtain ⟨k, hk⟩ : ∃ k : Nat, x.op = (k : Int) := ⟨x.op.toNat, by have := hx.1; omega⟩
      have hk30 : k < 30 := by have := hx.1; omega
      rw [hk] at e1 e2 ⊢
      have e3 : (k : Int).toNat = k := by omega
      rw [e3]
      have s1 := (h.shp.1 k hk30).2.2.1
      generalize tkL.getD k 0 = v at *
      have s1 := fun o => newC s1 o
      have hk0 : (0 : Int) ≤ (k : Int) := by omega
      have hk1 : (k : Int) < 30 := by omega
      clear h26 h27 h hx d0 hk e3
      go_enter Tryz.func79, Tryz.ntmps79
      go_wp2
      go_ret
      exact ⟨rfl, (Below.refl _ _).alloc (Nat.le_refl _) _⟩

set_option maxRecDepth 100000 in
set_option maxHeartbeats 2000000 in
theorem leaves_calls (h : Fd c A c1 A2 c2 p q gH f hs vW ws w) (x : InM) (hx : inOk p c.ps.length x) :
    Calls Tryz.prog 80 #[.pointer (some ⟨f, 0, none⟩), inV x] w fun e w' => e = .returned (.int .i64 (leavesM c x)) ∧ Below w.heap.size w w' := by
  unfold inV leavesM
  obtain ⟨d0, _⟩ := h.cells
  have hfl := h.flt
  have hql := h.lt
  by_cases h26 : x.op = 26
  · rw [if_pos h26, h26]
    obtain ⟨k, hk, hkl⟩ := inOk_call hx h26
    rw [hk]
    obtain ⟨b, off, rfl, hb, hcells⟩ := h.co.prs (by omega)
    obtain ⟨g0, g1, g2, g3, g4, g5⟩ := hcells k hkl
    have e : c.ps.getD (k : Int).toNat noPr = c.ps[k] := by
      have : (k : Int).toNat = k := by omega
      rw [this, List.getD_eq_getElem?_getD, List.getElem?_eq_getElem hkl]; rfl
    rw [e]
    clear e hcells hx h26 hk
    generalize c.ps[k] = y at *
    have HA := Lib.hid (fun W => answers_calls y W)
    unfold prV at HA
    have HX0 := Lib.hid (heapOne w #[.int .i64 26, .int .i64 (k : Int), .int .i64 x.mor] 62)
    have HB0 := Lib.hid ((Below.refl w.heap.size w).alloc (Nat.le_refl _) (.cells #[.int .i64 26, .int .i64 (k : Int), .int .i64 x.mor] 62))
    have hk0 : (0 : Int) ≤ (k : Int) := by omega
    have hk1 : (k : Int) < (c.ps.length : Int) := by omega
    clear h
    go_enter Tryz.func80, Tryz.ntmps80
    go_wp2
    generalize w.alloc (.cells #[.int .i64 26, .int .i64 (k : Int), .int .i64 x.mor] 62) = W0 at *
    have x1 : W0.drew.cell? ⟨w.heap.size, 1, none⟩ = some (.int .i64 (k : Int)) := cellC HX0.out 1
    have d0 := keepC HB0.out.drew d0 (ltC d0)
    have g0 := keepC HB0.out.drew g0 (ltC g0)
    have g1 := keepC HB0.out.drew g1 (ltC g1)
    have g2 := keepC HB0.out.drew g2 (ltC g2)
    have g3 := keepC HB0.out.drew g3 (ltC g3)
    have g4 := keepC HB0.out.drew g4 (ltC g4)
    have g5 := keepC HB0.out.drew g5 (ltC g5)
    have HBc := Lib.hid HB0.out.drew
    go_region_held3 (fun w' => w'.cell? ⟨f, 0, none⟩ = some (.slice (some ⟨b, off, none⟩) c.ps.length c1) ∧ w'.cell? ⟨w.heap.size, 1, none⟩ = some (.int .i64 (k : Int)) ∧ w'.cell? ⟨b, off + k * 6, none⟩ = some (.string (bs y.name)) ∧ w'.cell? ⟨b, off + k * 6 + 1, none⟩ = some (.int .i64 y.frm) ∧ w'.cell? ⟨b, off + k * 6 + 2, none⟩ = some (.int .i64 y.to) ∧ w'.cell? ⟨b, off + k * 6 + 3, none⟩ = some (.int .i64 y.par) ∧ w'.cell? ⟨b, off + k * 6 + 4, none⟩ = some (.int .i64 y.slo) ∧ w'.cell? ⟨b, off + k * 6 + 5, none⟩ = some (.int .i64 y.typ))
      (with_reducible exact ⟨d0, x1, g0, g1, g2, g3, g4, g5⟩)
      ((go_at_call 104; refine (HA.out _).mono ?_; rintro e w5 ⟨rfl, hb5⟩; have HBc := Lib.hid (HBc.out.trans (hb5.mono HBc.out.size)); have d0 := keepC hb5 d0 (ltC d0); have x1 := keepC hb5 x1 (ltC x1); have g0 := keepC hb5 g0 (ltC g0); have g1 := keepC hb5 g1 (ltC g1); have g2 := keepC hb5 g2 (ltC g2); have g3 := keepC hb5 g3 (ltC g3); have g4 := keepC hb5 g4 (ltC g4); have g5 := keepC hb5 g5 (ltC g5); clear hb5))
    all_goals
      go_wp2
      go_ret
      exact ⟨rfl, HBc.out⟩
  · rw [if_neg h26]
    have e1 : (x.op == 26) = false := beq_eq_false_iff_ne.2 h26
    obtain ⟨k, hk⟩ : ∃ k : Nat, x.op = (k : Int) := ⟨x.op.toNat, by have := hx.1; omega⟩
    have hk30 : k < 30 := by have := hx.1; omega
    rw [hk] at e1 ⊢
    have e3 : (k : Int).toNat = k := by omega
    rw [e3]
    have s1 := (h.shp.1 k hk30).2.2.2
    generalize lvL.getD k 0 = v at *
    have s1 := fun o => newC s1 o
    have hk0 : (0 : Int) ≤ (k : Int) := by omega
    have hk1 : (k : Int) < 30 := by omega
    clear h26 h hx d0 hk e3
    go_enter Tryz.func80, Tryz.ntmps80
    go_wp2
    go_ret
    exact ⟨rfl, (Below.refl _ _).alloc (Nat.le_refl _) _⟩
end

end Go.Proofs.YtbhlockoeiedcaaGreatDoor
