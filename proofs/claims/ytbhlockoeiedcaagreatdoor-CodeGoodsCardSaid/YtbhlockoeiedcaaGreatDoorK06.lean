/-
  code: what a procedure answers, what an instruction's More and Arg may be.
  Names: a text that is one token, a name.
  Plain facts on signs: the first of the table that fits.
-/
import Derived.Test.YtbhlockoeiedcaaGreatDoorK05
import Derived.RegionTactic
import Derived.Deep.QuietTactic
import Derived.BigQuiet
import Derived.Deep.RegionHeld3
import Derived.Deep.MidRow
import Derived.Test.YtbhlockoeiedcaaGreatDoorK04
import Derived.Test.YtbhlockoeiedcaaGreatDoorK00
namespace Go.Proofs.YtbhlockoeiedcaaGreatDoor
open Go.RowKit

theorem below_drewC {B : Nat} {a w : World} (h : Below B a w) (n : Nat) : Below B a (w.drewN n) := ⟨h.os, h.tape, h.output, h.size, h.block⟩

set_option maxRecDepth 100000 in
set_option maxHeartbeats 1000000 in
theorem answers_calls (p : PrM) (w : World) : Calls Tryz.prog 104 #[prV p] w fun e w' => e = .returned (.int .i64 (ansM p)) ∧ Below w.heap.size w w' := by
  unfold prV ansM
  by_cases h : p.typ = 1
  · have hb : (p.typ == 1) = true := beq_iff_eq.2 h
    rw [if_pos h]
    clear h
    go_enter Tryz.func104, Tryz.ntmps104
    go_wp2
    go_ret
    exact ⟨rfl, (Below.refl _ _).alloc (Nat.le_refl _) _⟩
  · have hb : (p.typ == 1) = false := beq_eq_false_iff_ne.2 h
    rw [if_neg h]
    clear h
    go_enter Tryz.func104, Tryz.ntmps104
    go_wp2
    go_ret
    exact ⟨rfl, (Below.refl _ _).alloc (Nat.le_refl _) _⟩

def morB (x : InM) : Bool := if x.op = 7 then decide (1 ≤ x.mor) && decide (x.mor ≤ 64) else x.mor == 0
theorem morB_iff (x : InM) : morB x = true ↔ morOk x := by
  unfold morB morOk
  split <;> simp
set_option maxRecDepth 100000 in
set_option maxHeartbeats 1000000 in
theorem moreFits_calls (x : InM) (w : World) : Calls Tryz.prog 76 #[inV x] w fun e w' => e = .returned (.bool (morB x)) ∧ Below w.heap.size w w' := by
  unfold inV
  by_cases h : x.op = 7
  · have hb : (x.op == 7) = true := beq_iff_eq.2 h
    have hm : Hid (morB x = (decide (1 ≤ x.mor) && decide (x.mor ≤ 64))) := Lib.hid (by unfold morB; rw [if_pos h])
    clear h
    go_enter Tryz.func76, Tryz.ntmps76
    go_wp2
    all_goals
      go_ret
      exact ⟨ret_bool (by rw [hm.out, Bool.eq_iff_iff]; simp; omega), (Below.refl _ _).alloc (Nat.le_refl _) _⟩
  · have hb : (x.op == 7) = false := beq_eq_false_iff_ne.2 h
    have hm : Hid (morB x = (x.mor == 0)) := Lib.hid (by unfold morB; rw [if_neg h])
    clear h
    go_enter Tryz.func76, Tryz.ntmps76
    go_wp2
    go_ret
    exact ⟨ret_bool (by rw [hm.out]), (Below.refl _ _).alloc (Nat.le_refl _) _⟩

/-- What argsOf asks: sums that fit. -/
def PrM.mild (p : PrM) : Prop := -9223372036854775808 < p.slo ∧ -9223372036854775808 < p.to ∧ p.fit
set_option maxRecDepth 100000 in
set_option maxHeartbeats 1000000 in
theorem argsOf_calls (k : Int) (p : PrM) (np : Nat) (w : World) (hk : 0 ≤ k ∧ k ≤ 7) (hp : p.mild) (hn : np ≤ maxLen) :
    Calls Tryz.prog 75 #[.int .i64 k, prV p, .int .i64 (np : Int)] w fun e w' => e = .returned (.tuple #[.int .i64 (loM k p), .int .i64 (hiM k p np)]) ∧ Below w.heap.size w w' := by
  obtain ⟨h1, h2, h3⟩ := hp
  obtain ⟨f1, f2, f3, f4, f5⟩ := h3
  unfold i64 at f1 f2 f3 f4 f5
  unfold maxLen at hn
  have HA := Lib.hid (fun W => answers_calls p W)
  unfold prV at HA ⊢
  have hkk : k = 0 ∨ k = 1 ∨ k = 2 ∨ k = 3 ∨ k = 4 ∨ k = 5 ∨ k = 6 ∨ k = 7 := by omega
  rcases hkk with rfl | rfl | rfl | rfl | rfl | rfl | rfl | rfl
  · rw [show loM 0 p = 0 from rfl, show hiM 0 p np = 0 from rfl]
    go_enter Tryz.func75, Tryz.ntmps75
    go_wp2
    go_ret2
    exact ⟨rfl, (Below.refl _ _).alloc (Nat.le_refl _) _⟩
  · rw [show loM 1 p = -9223372036854775808 from rfl, show hiM 1 p np = 9223372036854775807 from rfl]
    go_enter Tryz.func75, Tryz.ntmps75
    go_wp2
    go_ret2
    exact ⟨rfl, (Below.refl _ _).alloc (Nat.le_refl _) _⟩
  · rw [show loM 2 p = 0 from rfl, show hiM 2 p np = 999 from rfl]
    go_enter Tryz.func75, Tryz.ntmps75
    go_wp2
    go_ret2
    exact ⟨rfl, (Below.refl _ _).alloc (Nat.le_refl _) _⟩
  · rw [show loM 3 p = 0 from rfl, show hiM 3 p np = p.slo - 1 from rfl]
    go_enter Tryz.func75, Tryz.ntmps75
    go_wp2
    go_quiet (fail)
    go_wp2
    go_ret2
    exact ⟨rfl, below_drewC ((Below.refl _ _).alloc (Nat.le_refl _) _) _⟩
  · rw [show loM 4 p = p.frm from rfl, show hiM 4 p np = p.to - 1 from rfl]
    go_enter Tryz.func75, Tryz.ntmps75
    go_wp2
    go_quiet (fail)
    go_wp2
    go_ret2
    exact ⟨rfl, below_drewC ((Below.refl _ _).alloc (Nat.le_refl _) _) _⟩
  · rw [show loM 5 p = 0 from rfl, show hiM 5 p np = (np : Int) - 1 from rfl]
    go_enter Tryz.func75, Tryz.ntmps75
    go_wp2
    go_ret2
    exact ⟨rfl, (Below.refl _ _).alloc (Nat.le_refl _) _⟩
  · rw [show loM 6 p = ansM p from rfl, show hiM 6 p np = ansM p from rfl]
    go_enter Tryz.func75, Tryz.ntmps75
    go_wp2
    have HB0 := Lib.hid ((Below.refl w.heap.size w).alloc (Nat.le_refl _) (.cells #[.string (bs p.name), .int .i64 p.frm, .int .i64 p.to, .int .i64 p.par, .int .i64 p.slo, .int .i64 p.typ] 64))
    have HX := Lib.hid (heapOne w #[.string (bs p.name), .int .i64 p.frm, .int .i64 p.to, .int .i64 p.par, .int .i64 p.slo, .int .i64 p.typ] 64)
    generalize w.alloc (.cells #[.string (bs p.name), .int .i64 p.frm, .int .i64 p.to, .int .i64 p.par, .int .i64 p.slo, .int .i64 p.typ] 64) = W0 at *
    have d0 : W0.drew.cell? ⟨w.heap.size, 0, none⟩ = some (.string (bs p.name)) := cellC HX.out 0
    have d1 : W0.drew.cell? ⟨w.heap.size, 1, none⟩ = some (.int .i64 p.frm) := cellC HX.out 1
    have d2 : W0.drew.cell? ⟨w.heap.size, 2, none⟩ = some (.int .i64 p.to) := cellC HX.out 2
    have d3 : W0.drew.cell? ⟨w.heap.size, 3, none⟩ = some (.int .i64 p.par) := cellC HX.out 3
    have d4 : W0.drew.cell? ⟨w.heap.size, 4, none⟩ = some (.int .i64 p.slo) := cellC HX.out 4
    have d5 : W0.drew.cell? ⟨w.heap.size, 5, none⟩ = some (.int .i64 p.typ) := cellC HX.out 5
    have HBc := Lib.hid HB0.out.drew
    go_region_held3 (fun w' => w'.cell? ⟨w.heap.size, 0, none⟩ = some (.string (bs p.name)) ∧ w'.cell? ⟨w.heap.size, 1, none⟩ = some (.int .i64 p.frm) ∧ w'.cell? ⟨w.heap.size, 2, none⟩ = some (.int .i64 p.to) ∧ w'.cell? ⟨w.heap.size, 3, none⟩ = some (.int .i64 p.par) ∧ w'.cell? ⟨w.heap.size, 4, none⟩ = some (.int .i64 p.slo) ∧ w'.cell? ⟨w.heap.size, 5, none⟩ = some (.int .i64 p.typ))
      (with_reducible exact ⟨d0, d1, d2, d3, d4, d5⟩)
      ((go_at_call 104; refine (HA.out _).mono ?_; rintro e w5 ⟨rfl, hb5⟩; have HBc := Lib.hid (HBc.out.trans (hb5.mono HBc.out.size)); have d0 := keepC hb5 d0 (ltC d0); have d1 := keepC hb5 d1 (ltC d1); have d2 := keepC hb5 d2 (ltC d2); have d3 := keepC hb5 d3 (ltC d3); have d4 := keepC hb5 d4 (ltC d4); have d5 := keepC hb5 d5 (ltC d5); clear hb5))
    all_goals
      go_wp2
      go_ret2
      exact ⟨rfl, HBc.out⟩
  · rw [show loM 7 p = 1 from rfl, show hiM 7 p np = 2 from rfl]
    go_enter Tryz.func75, Tryz.ntmps75
    go_wp2
    go_ret2
    exact ⟨rfl, (Below.refl _ _).alloc (Nat.le_refl _) _⟩

end Go.Proofs.YtbhlockoeiedcaaGreatDoor

namespace Go.Proofs.YtbhlockoeiedcaaGreatDoor

set_option maxRecDepth 100000 in
theorem isLet_ne {c : UInt8} (h : isLet c = true) : isBl c = false ∧ c ≠ 35 := by
  have key : ∀ n : Fin 256, isLet (UInt8.ofNat n.1) = true → isBl (UInt8.ofNat n.1) = false ∧ UInt8.ofNat n.1 ≠ 35 := by decide
  have := key ⟨c.toNat, c.toNat_lt⟩
  simpa using this (by simpa using h)
theorem run_whole (p : UInt8 → Bool) (r : List UInt8) : run p r = r.length ↔ r.all p = true := by
  induction r with
  | nil => simp [run_nil]
  | cons c r ih =>
    rw [run_cons, List.all_cons]
    by_cases h : p c = true
    · rw [if_pos h, h]; simp [ih]
    · rw [if_neg h]; simp [h]
theorem isNm_next (t : List UInt8) : (nextBad t 0 = false ∧ (nextT t 0).kind = 1 ∧ (nextT t 0).lo = 0 ∧ (nextT t 0).hi = t.length) ↔ isNm t = true := by
  constructor
  · intro ⟨_, hk, hlo, hhi⟩
    have hf : skipTo false t 0 = 0 := hlo
    simp only [nextT, hf, List.drop_zero] at hk hhi
    cases t with
    | nil => simp [tokL] at hk
    | cons c r =>
      simp only [tokL] at hk hhi
      by_cases hl : isLet c = true
      · rw [if_pos hl] at hk hhi
        have hw : run isAl (c :: r) = (c :: r).length := by simpa using hhi
        rw [hw, List.take_of_length_le (Nat.le_refl _)] at hk
        have ha := (run_whole isAl (c :: r)).1 hw
        rw [List.all_cons] at ha
        have ha2 : r.all isAl = true := by simp only [Bool.and_eq_true] at ha; exact ha.2
        unfold isNm
        dsimp only
        rw [hl, ha2]
        dsimp only [nameK] at hk
        by_cases hi : isW (c :: r) = true
        · rw [if_pos hi] at hk; omega
        · simpa using hi
      · rw [if_neg hl] at hk
        by_cases hd : isDig c = true
        · rw [if_pos hd] at hk
          split at hk <;> simp at hk
        · rw [if_neg hd] at hk
          split at hk <;> simp at hk
  · intro h
    cases t with
    | nil => simp [isNm] at h
    | cons c r =>
      unfold isNm at h
      simp only [Bool.and_eq_true] at h
      obtain ⟨⟨hl, ha⟩, hw⟩ := h
      obtain ⟨n1, n2⟩ := isLet_ne hl
      have hf : skipTo false (c :: r) 0 = 0 := skipTo_other (c :: r) 0 (by simp) n1 n2
      have hr : run isAl (c :: r) = (c :: r).length := (run_whole isAl (c :: r)).2 (by rw [List.all_cons, ha]; simp [isAl, hl])
      have ht : tokL (c :: r) = (1, (c :: r).length) := by
        simp only [tokL]
        rw [if_pos hl, hr, List.take_of_length_le (Nat.le_refl _)]
        dsimp only [nameK]
        have : isW (c :: r) = false := by simpa using hw
        rw [this]
        rfl
      have e : nextT (c :: r) 0 = ⟨1, 0, (c :: r).length⟩ := by
        simp only [nextT, hf, List.drop_zero, ht, Nat.zero_add]
      unfold nextBad
      rw [e]
      simp
theorem isNm_toks (t : List UInt8) : ((toks t 0).2 = none ∧ (toks t 0).1.length = 2 ∧ ∃ x, (toks t 0).1[0]? = some x ∧ x.kind = 1 ∧ x.lo = 0 ∧ x.hi = t.length) ↔ isNm t = true := by
  rw [← isNm_next]
  constructor
  · intro ⟨h1, h2, x, hx, k1, k2, k3⟩
    by_cases hb : nextBad t 0 = true
    · rw [toks_bad t 0 hb] at h1; cases h1
    · have hb' : nextBad t 0 = false := by simpa using hb
      by_cases h0 : (nextT t 0).kind = 0
      · rw [toks_end t 0 hb' h0] at h2; simp at h2
      · rw [toks_more t 0 (by omega) hb' h0] at hx
        simp at hx
        subst hx
        exact ⟨hb', k1, k2, k3⟩
  · intro ⟨hb, k1, k2, k3⟩
    have h0 : (nextT t 0).kind ≠ 0 := by omega
    have hm := toks_more t 0 (by omega) hb h0
    rw [k3] at hm
    have hf : skipTo false t t.length = t.length := skipTo_end false t _ (Nat.le_refl _)
    have e : nextT t t.length = ⟨0, t.length, t.length⟩ := by
      simp only [nextT, hf, List.drop_length]
      rfl
    have hb2 : nextBad t t.length = false := by unfold nextBad; rw [e]; simp
    rw [toks_end t t.length hb2 (by rw [e]), e] at hm
    rw [hm]
    exact ⟨rfl, rfl, nextT t 0, rfl, k1, k2, k3⟩

end Go.Proofs.YtbhlockoeiedcaaGreatDoor

namespace Go.Proofs.YtbhlockoeiedcaaGreatDoor

def hasP (r b : List UInt8) : Bool := r.take b.length == b
theorem sgn_len (j : Nat) (hj : j < 23) : (signsL.getD j []).length = if j < 6 then 2 else 1 := by
  have : ∀ j : Fin 23, (signsL.getD j.1 []).length = if j.1 < 6 then 2 else 1 := by decide
  exact this ⟨j, hj⟩
theorem sgn_two (j : Nat) (hj : j < 6) : signsL.getD j [] ∈ twoL := by
  have : ∀ j : Fin 6, signsL.getD j.1 [] ∈ twoL := by decide
  exact this ⟨j, hj⟩
theorem sgn_one (j : Nat) (h6 : 6 ≤ j) (hj : j < 23) : signsL.getD j [] ∈ oneL := by
  have : ∀ j : Fin 23, 6 ≤ j.1 → signsL.getD j.1 [] ∈ oneL := by decide
  exact this ⟨j, hj⟩ h6
theorem two_sgn : ∀ b ∈ twoL, ∃ j : Fin 6, signsL.getD j.1 [] = b := by decide
theorem one_sgn : ∀ b ∈ oneL, ∃ j : Fin 23, 6 ≤ j.1 ∧ signsL.getD j.1 [] = b := by decide

theorem sign_first (r : List UInt8) (i : Nat) (hi : i < 23) (hn : ∀ j, j < i → hasP r (signsL.getD j []) = false) (h : hasP r (signsL.getD i []) = true) : signL r = (signsL.getD i []).length := by
  have hl := sgn_len i hi
  unfold hasP at h
  rw [hl] at h ⊢
  rw [beq_iff_eq] at h
  unfold signL
  by_cases h6 : i < 6
  · rw [if_pos h6] at h ⊢
    have : isTwo (r.take 2) = true := by rw [h]; simpa [isTwo] using sgn_two i h6
    rw [if_pos this]
  · rw [if_neg h6] at h ⊢
    have h2 : ¬ isTwo (r.take 2) = true := fun hc => by
      have hm : r.take 2 ∈ twoL := by simpa [isTwo] using hc
      obtain ⟨j, hj⟩ := two_sgn _ hm
      have := hn j.1 (by omega)
      unfold hasP at this
      rw [sgn_len j.1 (by omega), if_pos j.2, hj] at this
      simp at this
    have h1 : isOne (r.take 1) = true := by rw [h]; simpa [isOne] using sgn_one i (by omega) hi
    rw [if_neg h2, if_pos h1]
theorem sign_none (r : List UInt8) (hn : ∀ j, j < 23 → hasP r (signsL.getD j []) = false) : signL r = 0 := by
  unfold signL
  have h2 : ¬ isTwo (r.take 2) = true := fun hc => by
    have hm : r.take 2 ∈ twoL := by simpa [isTwo] using hc
    obtain ⟨j, hj⟩ := two_sgn _ hm
    have := hn j.1 (by omega)
    unfold hasP at this
    rw [sgn_len j.1 (by omega), if_pos j.2, hj] at this
    simp at this
  have h1 : ¬ isOne (r.take 1) = true := fun hc => by
    have hm : r.take 1 ∈ oneL := by simpa [isOne] using hc
    obtain ⟨j, h6, hj⟩ := one_sgn _ hm
    have := hn j.1 (by omega)
    unfold hasP at this
    rw [sgn_len j.1 (by omega), if_neg (by omega), hj] at this
    simp at this
  rw [if_neg h2, if_neg h1]

end Go.Proofs.YtbhlockoeiedcaaGreatDoor
