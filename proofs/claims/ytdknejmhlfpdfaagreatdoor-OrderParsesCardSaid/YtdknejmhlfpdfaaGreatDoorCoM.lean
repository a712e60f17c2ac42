/-
  Code (layer 10): what is good, and which heights there are; by ways.
-/
import Derived.Test.YtdknejmhlfpdfaaGreatDoorMathA
namespace Go.Proofs.YtdknejmhlfpdfaaGreatDoor

/-- Is a text a name? -/
def isNm (b : List UInt8) : Bool := match b with | [] => false | c :: r => isLet c && r.all isAl && !isW b

structure PrM where
  name : List UInt8
  frm : Int
  to : Int
  par : Int
  slo : Int
  typ : Int
structure InM where
  op : Int
  arg : Int
  mor : Int
structure CoM where
  ps : List PrM
  is : List InM

def noIn : InM := ⟨0, 0, 0⟩
def noPr : PrM := ⟨[], 0, 0, 0, 0, 0⟩
/-- Where the procedures end, if they follow one another from a place on. -/
def ordB : Int → List PrM → Option Int
  | e, [] => some e
  | e, p :: r => if p.frm = e ∧ e < p.to then ordB p.to r else none
def ordC (c : CoM) : Prop := c.ps ≠ [] ∧ ordB 0 c.ps = some (c.is.length : Int)
def ansM (p : PrM) : Int := if p.typ = 1 then 1 else 0
def prOk (p : PrM) : Prop := 0 ≤ p.par ∧ p.par ≤ p.slo ∧ p.slo ≤ 64 ∧ (p.typ = 1 ∨ p.typ = 4) ∧ isNm p.name = true
def argOk (p : PrM) (np : Nat) (x : InM) : Prop :=
  if x.op = 1 then 0 ≤ x.arg ∧ x.arg < 1000
  else if x.op = 2 then True
  else if 3 ≤ x.op ∧ x.op ≤ 7 then 0 ≤ x.arg ∧ x.arg < p.slo
  else if 22 ≤ x.op ∧ x.op ≤ 25 then p.frm ≤ x.arg ∧ x.arg < p.to
  else if x.op = 26 then 0 ≤ x.arg ∧ x.arg < (np : Int)
  else if x.op = 27 then x.arg = ansM p
  else if x.op = 28 then 1 ≤ x.arg ∧ x.arg ≤ 2
  else x.arg = 0
def morOk (x : InM) : Prop := if x.op = 7 then 1 ≤ x.mor ∧ x.mor ≤ 64 else x.mor = 0
def inOk (p : PrM) (np : Nat) (x : InM) : Prop := (1 ≤ x.op ∧ x.op ≤ 29) ∧ argOk p np x ∧ morOk x
/-- A procedure's instructions. -/
def body (c : CoM) (p : PrM) : List InM := (c.is.drop p.frm.toNat).take (p.to - p.frm).toNat
def parts (c : CoM) : Prop := ∀ p ∈ c.ps, prOk p ∧ ∀ x ∈ body c p, inOk p c.ps.length x

def tkL : List Int := [0, 0, 0, 0, 1, 1, 2, 0, 0, 1, 1, 2, 2, 2, 2, 2, 2, 2, 2, 2, 2, 2, 0, 1, 1, 1, 0, 0, 1, 1]
def lvL : List Int := [0, 0, 1, 1, 0, 1, 0, 0, 1, 1, 1, 1, 1, 1, 1, 1, 1, 1, 1, 1, 1, 1, 0, 0, 0, 0, 0, 0, 0, 0]
def takesM (c : CoM) (x : InM) : Int :=
  if x.op = 26 then (c.ps.getD x.arg.toNat noPr).par else if x.op = 27 then x.arg else tkL.getD x.op.toNat 0
def leavesM (c : CoM) (x : InM) : Int :=
  if x.op = 26 then ansM (c.ps.getD x.arg.toNat noPr) else lvL.getD x.op.toNat 0
/-- Where an instruction of a place may lead, at a height. -/
def nexts (c : CoM) (at' : Nat) (x : InM) (h : Int) : List (Nat × Int) :=
  if x.op = 27 then []
  else if x.op = 22 then [(x.arg.toNat, h - takesM c x + leavesM c x)]
  else if x.op = 23 then [(x.arg.toNat, h - takesM c x + leavesM c x), (at' + 1, h - takesM c x + leavesM c x)]
  else if x.op = 24 ∨ x.op = 25 then [(x.arg.toNat, h), (at' + 1, h - takesM c x + leavesM c x)]
  else [(at' + 1, h - takesM c x + leavesM c x)]
def insAt (c : CoM) (i : Nat) : InM := c.is.getD i noIn
/-- Ways from a procedure's beginning: which heights are met. -/
inductive Met (c : CoM) (F : Nat) : Nat → Int → Prop
  | start : Met c F F 0
  | step {a : Nat} {h : Int} {q : Nat × Int} : Met c F a h → takesM c (insAt c a) ≤ h → q ∈ nexts c a (insAt c a) h → Met c F q.1 q.2
/-- What an instruction leads to is as it must be. -/
def Done (c : CoM) (T : Nat) (hs : List Int) (i : Nat) (h : Int) : Prop :=
  takesM c (insAt c i) ≤ h ∧ ∀ q ∈ nexts c i (insAt c i) h, q.1 < T ∧ q.2 ≤ 200 ∧ hs.getD q.1 (-1) = q.2
def hAt (hs : List Int) (i : Nat) : Int := hs.getD i (-1)
/-- Heights of a procedure. -/
structure HtsP (c : CoM) (F T : Nat) (hs : List Int) : Prop where
  first : hAt hs F = 0
  done : ∀ i, F ≤ i → i < T → 0 ≤ hAt hs i → Done c T hs i (hAt hs i)
  met : ∀ i, F ≤ i → i < T → (hAt hs i = -1 ∨ 0 ≤ hAt hs i) ∧ (0 ≤ hAt hs i → Met c F i (hAt hs i))
def HtsC (c : CoM) (hs : List Int) : Prop := hs.length = c.is.length ∧ ∀ p ∈ c.ps, HtsP c p.frm.toNat p.to.toNat hs
def StOk (c : CoM) : Prop := ordC c ∧ parts c
def GoodC (c : CoM) : Prop := StOk c ∧ ∃ hs, HtsC c hs

/-! Facts. -/
theorem nexts_ge (c : CoM) (F : Nat) (p : PrM) (np : Nat) (i : Nat) (x : InM) (h : Int) (hF : p.frm = (F : Int)) (hok : inOk p np x) (hi : F ≤ i) (q : Nat × Int) (hq : q ∈ nexts c i x h) : F ≤ q.1 := by
  obtain ⟨_, ha, _⟩ := hok
  unfold argOk at ha
  unfold nexts at hq
  by_cases h27 : x.op = 27
  · rw [if_pos h27] at hq; cases hq
  rw [if_neg h27] at hq
  by_cases h22 : x.op = 22
  · rw [if_pos h22] at hq
    rw [if_neg (by omega), if_neg (by omega), if_neg (by omega), if_pos (by omega)] at ha
    simp at hq; subst hq; show F ≤ x.arg.toNat; omega
  rw [if_neg h22] at hq
  by_cases h23 : x.op = 23
  · rw [if_pos h23] at hq
    rw [if_neg (by omega), if_neg (by omega), if_neg (by omega), if_pos (by omega)] at ha
    simp at hq; rcases hq with rfl | rfl
    · show F ≤ x.arg.toNat; omega
    · show F ≤ i + 1; omega
  rw [if_neg h23] at hq
  by_cases h24 : x.op = 24 ∨ x.op = 25
  · rw [if_pos h24] at hq
    rw [if_neg (by omega), if_neg (by omega), if_neg (by omega), if_pos (by omega)] at ha
    simp at hq; rcases hq with rfl | rfl
    · show F ≤ x.arg.toNat; omega
    · show F ≤ i + 1; omega
  rw [if_neg h24] at hq
  simp at hq; subst hq; show F ≤ i + 1; omega
theorem lvL_nn (n : Nat) : 0 ≤ lvL.getD n 0 ∧ lvL.getD n 0 ≤ 1 := by
  by_cases h : n < 30
  · have key : ∀ k : Fin 30, 0 ≤ lvL.getD k.1 0 ∧ lvL.getD k.1 0 ≤ 1 := by decide
    exact key ⟨n, h⟩
  · rw [List.getD_eq_getElem?_getD, List.getElem?_eq_none (by simp [lvL]; omega)]; simp
theorem tkL_nn (n : Nat) : 0 ≤ tkL.getD n 0 ∧ tkL.getD n 0 ≤ 2 := by
  by_cases h : n < 30
  · have key : ∀ k : Fin 30, 0 ≤ tkL.getD k.1 0 ∧ tkL.getD k.1 0 ≤ 2 := by decide
    exact key ⟨n, h⟩
  · rw [List.getD_eq_getElem?_getD, List.getElem?_eq_none (by simp [tkL]; omega)]; simp
theorem ansM_nn (p : PrM) : 0 ≤ ansM p ∧ ansM p ≤ 1 := by unfold ansM; split <;> omega
theorem leavesM_nn (c : CoM) (x : InM) : 0 ≤ leavesM c x ∧ leavesM c x ≤ 1 := by
  unfold leavesM; split
  · exact ansM_nn _
  · exact lvL_nn _
theorem nexts_nn (c : CoM) (i : Nat) (x : InM) (h : Int) (ht : takesM c x ≤ h) (h0 : 0 ≤ h) (q : Nat × Int) (hq : q ∈ nexts c i x h) : 0 ≤ q.2 := by
  have hl := leavesM_nn c x
  unfold nexts at hq
  split at hq
  · cases hq
  · split at hq
    · simp at hq; subst hq; show 0 ≤ h - takesM c x + leavesM c x; omega
    · split at hq
      · simp at hq; rcases hq with rfl | rfl
        · show 0 ≤ h - takesM c x + leavesM c x; omega
        · show 0 ≤ h - takesM c x + leavesM c x; omega
      · split at hq
        · simp at hq; rcases hq with rfl | rfl
          · exact h0
          · show 0 ≤ h - takesM c x + leavesM c x; omega
        · simp at hq; subst hq; show 0 ≤ h - takesM c x + leavesM c x; omega
theorem nexts_len (c : CoM) (i : Nat) (x : InM) (h : Int) : (nexts c i x h).length ≤ 2 := by
  unfold nexts; repeat (first | split | simp)

/-- A place of a procedure is one of its instructions. -/
theorem ins_body {c : CoM} {p : PrM} {F T i : Nat} (hF : p.frm = (F : Int)) (hT : p.to = (T : Int)) (hl : T ≤ c.is.length) (h1 : F ≤ i) (h2 : i < T) : insAt c i ∈ body c p := by
  have hi : i < c.is.length := by omega
  have e : insAt c i = c.is[i] := by unfold insAt; rw [List.getD_eq_getElem?_getD, List.getElem?_eq_getElem hi]; rfl
  rw [e]
  unfold body
  rw [hF, hT]
  have e1 : (F : Int).toNat = F := by omega
  have e2 : ((T : Int) - (F : Int)).toNat = T - F := by omega
  rw [e1, e2]
  refine List.mem_iff_getElem.2 ⟨i - F, by simp; omega, ?_⟩
  simp
  congr 1
  omega

/-- Where there are heights, what is met has them. -/
theorem HtsP.holds {c : CoM} {p : PrM} {F T : Nat} {hs : List Int} (hp : HtsP c F T hs) (hFT : F < T) (hF : p.frm = (F : Int)) (hT : p.to = (T : Int)) (hl : T ≤ c.is.length) (hb : ∀ x ∈ body c p, inOk p c.ps.length x) : ∀ a h, Met c F a h → (F ≤ a ∧ a < T ∧ 0 ≤ h ∧ hAt hs a = h) := by
  intro a h hm
  induction hm with
  | start => exact ⟨Nat.le_refl _, hFT, by omega, hp.first⟩
  | @step a h q _ ht hq ih =>
    obtain ⟨i1, i2, i3, i4⟩ := ih
    have hd := hp.done a i1 i2 (by omega)
    rw [i4] at hd
    obtain ⟨d1, d2, d3⟩ := hd.2 q hq
    exact ⟨nexts_ge c F p _ a (insAt c a) h hF (hb _ (ins_body hF hT hl i1 i2)) i1 q hq, d1, nexts_nn c a _ h ht i3 q hq, d3⟩
/-- What goes wrong on a way. -/
inductive Wrong (c : CoM) (F T : Nat) : Prop
  | takes {a : Nat} {h : Int} : Met c F a h → h < takesM c (insAt c a) → Wrong c F T
  | next {a : Nat} {h : Int} {q : Nat × Int} : Met c F a h → takesM c (insAt c a) ≤ h → q ∈ nexts c a (insAt c a) h → (T ≤ q.1 ∨ 200 < q.2) → Wrong c F T
  | two {a : Nat} {h g : Int} : Met c F a h → Met c F a g → h ≠ g → Wrong c F T
theorem Wrong.no {c : CoM} {p : PrM} {F T : Nat} {hs : List Int} (hw : Wrong c F T) (hp : HtsP c F T hs) (hFT : F < T) (hF : p.frm = (F : Int)) (hT : p.to = (T : Int)) (hl : T ≤ c.is.length) (hb : ∀ x ∈ body c p, inOk p c.ps.length x) : False := by
  have H := hp.holds hFT hF hT hl hb
  cases hw with
  | takes hm ht =>
    obtain ⟨i1, i2, i3, i4⟩ := H _ _ hm
    have := (hp.done _ i1 i2 (by omega)).1
    rw [i4] at this; omega
  | @next a h q hm ht hq hb =>
    obtain ⟨i1, i2, i3, i4⟩ := H _ _ hm
    have hd := hp.done a i1 i2 (by omega)
    rw [i4] at hd
    have := hd.2 q hq
    omega
  | two h1 h2 hne =>
    have a1 := (H _ _ h1).2.2.2
    have a2 := (H _ _ h2).2.2.2
    exact hne (a1.symm.trans a2)

/-- Where the procedures lie. -/
theorem ordB_range : ∀ (ps : List PrM) (e : Int) (n : Nat), 0 ≤ e → ordB e ps = some (n : Int) → e ≤ (n : Int) ∧ ∀ p ∈ ps, e ≤ p.frm ∧ p.frm < p.to ∧ p.to ≤ (n : Int)
  | [], e, n, h0, h => by simp [ordB] at h; exact ⟨by omega, fun p hp => by cases hp⟩
  | p :: r, e, n, h0, h => by
    unfold ordB at h
    split at h
    · rename_i hc
      obtain ⟨h1, h2⟩ := ordB_range r p.to n (by omega) h
      refine ⟨by omega, fun q hq => ?_⟩
      rcases List.mem_cons.1 hq with rfl | hq
      · omega
      · have := h2 q hq; omega
    · cases h
theorem ordC.range {c : CoM} (h : ordC c) {p : PrM} (hp : p ∈ c.ps) : p.frm = (p.frm.toNat : Int) ∧ p.to = (p.to.toNat : Int) ∧ p.frm.toNat < p.to.toNat ∧ p.to.toNat ≤ c.is.length := by
  have := (ordB_range c.ps 0 c.is.length (by omega) h.2).2 p hp
  omega
theorem hAt_lt {hs : List Int} {i : Nat} (h : hAt hs i ≠ -1) : i < hs.length := by
  unfold hAt at h
  rw [List.getD_eq_getElem?_getD] at h
  by_cases hi : i < hs.length
  · exact hi
  · rw [List.getElem?_eq_none (by omega)] at h; simp at h
/-- A place of the row is one of a procedure. -/
theorem ordB_cover : ∀ (ps : List PrM) (e : Int) (n : Nat), 0 ≤ e → ordB e ps = some (n : Int) → ∀ i : Nat, e ≤ (i : Int) → i < n → ∃ p ∈ ps, p.frm ≤ (i : Int) ∧ (i : Int) < p.to
  | [], e, n, _, h, i, h1, h2 => by simp [ordB] at h; omega
  | p :: r, e, n, h0, h, i, h1, h2 => by
    unfold ordB at h
    split at h
    · rename_i hc
      by_cases hi : (i : Int) < p.to
      · exact ⟨p, by simp, by omega, hi⟩
      · obtain ⟨q, hq, hx⟩ := ordB_cover r p.to n (by omega) h i (by omega) h2
        exact ⟨q, List.mem_cons_of_mem _ hq, hx⟩
    · cases h
/-- There is one row of heights at most. -/
theorem HtsC.one {c : CoM} {a b : List Int} (hst : StOk c) (ha : HtsC c a) (hb : HtsC c b) : a = b := by
  apply List.ext_getElem (by rw [ha.1, hb.1])
  intro i h1 h2
  have hil : i < c.is.length := by rw [← ha.1]; exact h1
  obtain ⟨p, hp, h3, h4⟩ := ordB_cover c.ps 0 c.is.length (by omega) hst.1.2 i (by omega) hil
  obtain ⟨r1, r2, r3, r4⟩ := hst.1.range hp
  have A := ha.2 p hp
  have B := hb.2 p hp
  have hbody := (hst.2 p hp).2
  have ea : hAt a i = a[i] := by unfold hAt; rw [List.getD_eq_getElem?_getD, List.getElem?_eq_getElem h1]; rfl
  have eb : hAt b i = b[i] := by unfold hAt; rw [List.getD_eq_getElem?_getD, List.getElem?_eq_getElem h2]; rfl
  rw [← ea, ← eb]
  have A1 := A.met i (by omega) (by omega)
  have B1 := B.met i (by omega) (by omega)
  rcases A1.1 with x | x
  · rcases B1.1 with y | y
    · rw [x, y]
    · have := (A.holds r3 r1 r2 r4 hbody i _ (B1.2 y)).2.2.2
      rw [this]
  · exact ((B.holds r3 r1 r2 r4 hbody i _ (A1.2 x)).2.2.2).symm
theorem HtsC.bound {c : CoM} {hs : List Int} (hst : StOk c) (h : HtsC c hs) : ∀ i, i < c.is.length → -1 ≤ hAt hs i ∧ hAt hs i ≤ 200 := by
  intro i hil
  obtain ⟨p, hp, h3, h4⟩ := ordB_cover c.ps 0 c.is.length (by omega) hst.1.2 i (by omega) hil
  obtain ⟨r1, r2, r3, r4⟩ := hst.1.range hp
  have A := h.2 p hp
  have hbody := (hst.2 p hp).2
  have A1 := A.met i (by omega) (by omega)
  refine ⟨by rcases A1.1 with x | x <;> omega, ?_⟩
  rcases A1.1 with x | x
  · omega
  · have hm := A1.2 x
    revert hm
    generalize hAt hs i = g
    intro hm
    cases hm with
    | start => omega
    | @step a h q hm' ht hq =>
      obtain ⟨i1, i2, i3, i4⟩ := A.holds r3 r1 r2 r4 hbody _ _ hm'
      have hd := A.done a i1 i2 (by omega)
      rw [i4] at hd
      exact (hd.2 q hq).2.1

end Go.Proofs.YtdknejmhlfpdfaaGreatDoor
