/-
  code: an instruction leads to those that may come next (leadFrom).
-/
import Derived.Test.YtbhlockoeiedcaaGreatDoorCoI
import Derived.Deep.RegionWith
import Derived.BigRegion
import Derived.IntWalk
namespace Go.Proofs.YtbhlockoeiedcaaGreatDoor
open Go.RowKit

theorem takesM_in {c : CoM} {p : PrM} {x : InM} (hx : inOk p c.ps.length x) (hp : ∀ y ∈ c.ps, prOk y) : 0 ≤ takesM c x ∧ takesM c x ≤ 64 := by
  unfold takesM
  by_cases h26 : x.op = 26
  · rw [if_pos h26]
    obtain ⟨k, hk, hkl⟩ := inOk_call hx h26
    have e : (k : Int).toNat = k := by omega
    rw [hk, e, List.getD_eq_getElem?_getD, List.getElem?_eq_getElem hkl]
    obtain ⟨h1, h2, h3, _⟩ := hp _ (List.getElem_mem hkl)
    show 0 ≤ (c.ps[k]).par ∧ (c.ps[k]).par ≤ 64
    omega
  · rw [if_neg h26]
    by_cases h27 : x.op = 27
    · rw [if_pos h27]
      have ha := hx.2.1
      unfold argOk at ha
      rw [if_neg (by omega), if_neg (by omega), if_neg (by omega), if_neg (by omega), if_neg (by omega), if_pos h27] at ha
      have := ansM_nn p
      omega
    · rw [if_neg h27]
      have := tkL_nn x.op.toNat
      omega
theorem inOk_place {p : PrM} {np : Nat} {x : InM} {F : Nat} (h : inOk p np x) (hF : p.frm = (F : Int)) (e : 22 ≤ x.op ∧ x.op ≤ 25) : ∃ k : Nat, x.arg = (k : Int) := by
  have ha := h.2.1
  unfold argOk at ha
  rw [if_neg (by omega), if_neg (by omega), if_neg (by omega), if_pos e] at ha
  exact ⟨x.arg.toNat, by omega⟩

section
variable {c : CoM} {A A2 : Option Addr} {c1 c2 : Nat} {p : PrM} {q gH f : Nat} {hs : List Int} {vW : Value} {ws : List Nat} {w : World}
theorem LeadP.from {c : CoM} {A A2 : Option Addr} {c1 c2 : Nat} {p : PrM} {q gH f : Nat} {R : Bool × List Int × List Nat} {w W w' : World} {e : Ending} (h : LeadP c A c1 A2 c2 p q gH f R W e w') (hb : Below w.heap.size w W) (hf : f < w.heap.size) : LeadP c A c1 A2 c2 p q gH f R w e w' :=
  ⟨h.1, h.2.imp fun _ hv => ⟨hv.1, (FK.of hb (by omega)).trans hv.2⟩⟩
theorem leadsM_one (T : Nat) (q : Nat × Int) (hs : List Int) (ws : List Nat) : leadsM T [q] hs ws = leadM T hs ws q := by
  simp only [leadsM]
  by_cases h : (leadM T hs ws q).1 = true
  · rw [if_pos h]; exact Prod.ext h.symm rfl
  · rw [if_neg h]
theorem leadsM_yes (T : Nat) (q y : Nat × Int) (hs : List Int) (ws : List Nat) (h : (leadM T hs ws q).1 = true) : leadsM T [q, y] hs ws = leadM T (leadM T hs ws q).2.1 (leadM T hs ws q).2.2 y := by
  rw [← leadsM_one T y]
  conv => lhs; rw [leadsM]
  rw [if_pos h]
theorem leadsM_no (T : Nat) (q y : Nat × Int) (hs : List Int) (ws : List Nat) (h : ¬ (leadM T hs ws q).1 = true) : leadsM T [q, y] hs ws = leadM T hs ws q := by
  conv => lhs; rw [leadsM]
  rw [if_neg h]
theorem leadM_len (T : Nat) (hs : List Int) (ws : List Nat) (q : Nat × Int) : (leadM T hs ws q).2.2.length ≤ ws.length + 1 := by
  unfold leadM
  split
  · simp
  · split <;> simp
theorem leadM_keep (T : Nat) (hs : List Int) (ws : List Nat) (q : Nat × Int) (a : Nat) (h0 : 0 ≤ hAt hs a) : hAt (leadM T hs ws q).2.1 a = hAt hs a := by
  unfold leadM
  split
  · rfl
  · split
    · rename_i hn
      dsimp only
      have hl : q.1 ≠ a := fun e => by rw [e] at hn; omega
      unfold hAt
      rw [List.getD_eq_getElem?_getD, List.getD_eq_getElem?_getD, List.getElem?_set]
      simp [hl]
    · rfl
theorem fromM_of {c : CoM} {T : Nat} {hs : List Int} {ws : List Nat} {a : Nat} (h : ¬ hAt hs a < takesM c (insAt c a)) : fromM c T hs ws a = leadsM T (nexts c a (insAt c a) (hAt hs a)) hs ws := by unfold fromM; rw [if_neg h]
end
end Go.Proofs.YtbhlockoeiedcaaGreatDoor
