/-
  Code (layer 10): heights that are found one by one, out of a list of those that wait.
-/
import Derived.Test.YthkpnbekkoompabGreatDoorCoM
namespace Go.Proofs.YthkpnbekkoompabGreatDoor

/-- A place is given a height. -/
def leadM (T : Nat) (hs : List Int) (ws : List Nat) (q : Nat × Int) : Bool × List Int × List Nat :=
  if T ≤ q.1 ∨ 200 < q.2 then (false, hs, ws) else if hAt hs q.1 = -1 then (true, hs.set q.1 q.2, ws ++ [q.1]) else (decide (hAt hs q.1 = q.2), hs, ws)
def leadsM (T : Nat) : List (Nat × Int) → List Int → List Nat → Bool × List Int × List Nat
  | [], hs, ws => (true, hs, ws)
  | q :: r, hs, ws => if (leadM T hs ws q).1 then leadsM T r (leadM T hs ws q).2.1 (leadM T hs ws q).2.2 else leadM T hs ws q
def fromM (c : CoM) (T : Nat) (hs : List Int) (ws : List Nat) (at' : Nat) : Bool × List Int × List Nat :=
  if hAt hs at' < takesM c (insAt c at') then (false, hs, ws) else leadsM T (nexts c at' (insAt c at') (hAt hs at')) hs ws

/-- What holds while heights are found; those of ex are looked at just now. -/
structure Fnd (c : CoM) (F T : Nat) (hs0 hs : List Int) (ws ex : List Nat) : Prop where
  len : hs.length = c.is.length
  out : ∀ i, ¬ (F ≤ i ∧ i < T) → hAt hs i = hAt hs0 i
  first : hAt hs F = 0
  met : ∀ i, F ≤ i → i < T → (hAt hs i = -1 ∨ (0 ≤ hAt hs i ∧ hAt hs i ≤ 200)) ∧ (0 ≤ hAt hs i → Met c F i (hAt hs i))
  wait : ∀ i ∈ ws, F ≤ i ∧ i < T ∧ 0 ≤ hAt hs i
  done : ∀ i, F ≤ i → i < T → 0 ≤ hAt hs i → i ∈ ws ∨ i ∈ ex ∨ Done c T hs i (hAt hs i)
/-- How many places have no height yet. -/
def unset (hs : List Int) : Nat := hs.countP fun x => x == -1
/-- More heights. -/
def Ext (hs hs' : List Int) : Prop := hs'.length = hs.length ∧ ∀ i, hAt hs i ≠ -1 → hAt hs' i = hAt hs i
theorem Ext.refl (hs : List Int) : Ext hs hs := ⟨rfl, fun _ _ => rfl⟩
theorem Ext.trans {a b c : List Int} (h1 : Ext a b) (h2 : Ext b c) : Ext a c := ⟨h2.1.trans h1.1, fun i hi => (h2.2 i (by rw [h1.2 i hi]; exact hi)).trans (h1.2 i hi)⟩
theorem hAt_set (hs : List Int) (i j : Nat) (x : Int) (h : i < hs.length) : hAt (hs.set i x) j = if i = j then x else hAt hs j := by
  unfold hAt
  rw [List.getD_eq_getElem?_getD, List.getD_eq_getElem?_getD, List.getElem?_set]
  by_cases e : i = j
  · subst e; simp [h]
  · simp [e]
theorem Ext.set {hs : List Int} {i : Nat} {x : Int} (hi : i < hs.length) (h : hAt hs i = -1) : Ext hs (hs.set i x) := ⟨by simp, fun j hj => by
  rw [hAt_set hs i j x hi]
  by_cases e : i = j
  · subst e; exact absurd h hj
  · rw [if_neg e]⟩
theorem Done.ext {c : CoM} {T : Nat} {a b : List Int} {i : Nat} {h : Int} (hd : Done c T a i h) (hT : ∀ i x, takesM c (insAt c i) ≤ x → ∀ q ∈ nexts c i (insAt c i) x, q.2 ≠ -1 ∨ x < 0) (h0 : 0 ≤ h) (he : Ext a b) : Done c T b i h :=
  ⟨hd.1, fun q hq => by
    obtain ⟨d1, d2, d3⟩ := hd.2 q hq
    refine ⟨d1, d2, ?_⟩
    have e : hAt b q.1 = hAt a q.1 := he.2 q.1 (by
      rcases hT i h hd.1 q hq with x | x
      · show a.getD q.1 (-1) ≠ -1
        rw [d3]; exact x
      · omega)
    exact e.trans d3⟩
theorem nexts_pos (c : CoM) : ∀ i x, takesM c (insAt c i) ≤ x → ∀ q ∈ nexts c i (insAt c i) x, q.2 ≠ -1 ∨ x < 0 := fun i x ht q hq => by
  by_cases h0 : 0 ≤ x
  · have := nexts_nn c i (insAt c i) x ht h0 q hq; exact .inl (by omega)
  · exact .inr (by omega)
theorem unset_set : ∀ (hs : List Int) (i : Nat) (x : Int), i < hs.length → hAt hs i = -1 → x ≠ -1 → unset (hs.set i x) + 1 = unset hs
  | [], i, x, h, _, _ => by simp at h
  | y :: r, 0, x, h, h1, h2 => by
    have : y = -1 := by simpa [hAt] using h1
    subst this
    simp [unset, h2]
  | y :: r, i + 1, x, h, h1, h2 => by
    have := unset_set r i x (by simpa using h) (by simpa [hAt] using h1) h2
    simp only [unset] at this ⊢
    simp only [List.set_cons_succ, List.countP_cons]
    omega

/-- What giving places heights leaves: either all as it must be, or something goes wrong. -/
structure LeadOk (c : CoM) (F T : Nat) (hs0 hs : List Int) (ws ex : List Nat) (R : Bool × List Int × List Nat) (qs : List (Nat × Int)) : Prop where
  bad : R.1 = false → Wrong c F T
  at' : R.1 = true → ∀ q ∈ qs, q.1 < T ∧ q.2 ≤ 200 ∧ hAt R.2.1 q.1 = q.2
  ext : R.1 = true → Ext hs R.2.1
  few : R.1 = true → 2 * unset R.2.1 + R.2.2.length ≤ 2 * unset hs + ws.length
  fnd : R.1 = true → Fnd c F T hs0 R.2.1 R.2.2 ex
theorem leadM_ok {c : CoM} {F T : Nat} {hs0 hs : List Int} {ws ex : List Nat} {a : Nat} {h : Int} {q : Nat × Int} (hl : T ≤ c.is.length) (hF : F ≤ q.1) (h0 : 0 ≤ q.2) (hI : Fnd c F T hs0 hs ws ex)
    (hm : Met c F a h) (ht : takesM c (insAt c a) ≤ h) (hq : q ∈ nexts c a (insAt c a) h) : LeadOk c F T hs0 hs ws ex (leadM T hs ws q) [q] := by
  obtain ⟨I1, I2, I3, I4, I5, I6⟩ := hI
  by_cases hb : T ≤ q.1 ∨ 200 < q.2
  · have e : leadM T hs ws q = (false, hs, ws) := by unfold leadM; rw [if_pos hb]
    rw [e]
    exact ⟨fun _ => .next hm ht hq hb, fun e => (by cases e), fun e => (by cases e), fun e => (by cases e), fun e => (by cases e)⟩
  have hqT : q.1 < T := by omega
  by_cases hn : hAt hs q.1 = -1
  · have e : leadM T hs ws q = (true, hs.set q.1 q.2, ws ++ [q.1]) := by unfold leadM; rw [if_neg hb, if_pos hn]
    rw [e]
    have hlt : q.1 < hs.length := by omega
    have he : Ext hs (hs.set q.1 q.2) := Ext.set hlt hn
    have hu := unset_set hs q.1 q.2 hlt hn (by omega)
    have hs' := fun j => hAt_set hs q.1 j q.2 hlt
    refine ⟨fun e => (by cases e), fun _ y hy => ?_, fun _ => he, fun _ => ?_, fun _ => ⟨?_, fun i hi => ?_, ?_, fun i h1 h2 => ?_, fun i hi => ?_, fun i h1 h2 h3 => ?_⟩⟩
    · simp at hy; subst hy
      exact ⟨hqT, by omega, by dsimp only; rw [hs' _, if_pos rfl]⟩
    · dsimp only; rw [List.length_append]; simp; omega
    · dsimp only; rw [List.length_set]; exact I1
    · dsimp only; rw [hs' _, if_neg (fun e => hi (by omega))]; exact I2 i hi
    · dsimp only; rw [hs' _, if_neg (fun e => by rw [e, I3] at hn; omega)]; exact I3
    · dsimp only; rw [hs' _]
      by_cases e : q.1 = i
      · rw [if_pos e]; subst e
        exact ⟨.inr ⟨h0, by omega⟩, fun _ => Met.step hm ht hq⟩
      · rw [if_neg e]; exact I4 i h1 h2
    · dsimp only at hi ⊢; rw [hs' _]
      rcases List.mem_append.1 hi with hi | hi
      · obtain ⟨w1, w2, w3⟩ := I5 i hi
        refine ⟨w1, w2, ?_⟩
        split
        · exact h0
        · exact w3
      · simp at hi; subst hi; rw [if_pos rfl]; exact ⟨hF, hqT, h0⟩
    · dsimp only at h3 ⊢
      by_cases e : q.1 = i
      · exact .inl (List.mem_append.2 (.inr (by simp [e])))
      · have e2 := hs' i
        rw [if_neg e] at e2
        rw [e2] at h3 ⊢
        rcases I6 i h1 h2 h3 with x | x | x
        · exact .inl (List.mem_append.2 (.inl x))
        · exact .inr (.inl x)
        · exact .inr (.inr (x.ext (nexts_pos c) h3 he))
  · have hge : 0 ≤ hAt hs q.1 := by rcases (I4 q.1 hF hqT).1 with x | x <;> omega
    have e : leadM T hs ws q = (decide (hAt hs q.1 = q.2), hs, ws) := by unfold leadM; rw [if_neg hb, if_neg hn]
    rw [e]
    refine ⟨fun e => ?_, fun e y hy => ?_, fun _ => Ext.refl _, fun _ => Nat.le_refl _, fun _ => ⟨I1, I2, I3, I4, I5, I6⟩⟩
    · have hne : hAt hs q.1 ≠ q.2 := by simpa using e
      exact .two ((I4 q.1 hF hqT).2 hge) (Met.step hm ht hq) hne
    · have he : hAt hs q.1 = q.2 := by simpa using e
      simp at hy; subst hy
      exact ⟨hqT, by omega, he⟩
theorem leadsM_ok {c : CoM} {F T : Nat} {hs0 : List Int} {ex : List Nat} {a : Nat} {h : Int} (hl : T ≤ c.is.length) (hm : Met c F a h) (ht : takesM c (insAt c a) ≤ h) :
    ∀ (qs : List (Nat × Int)) (hs : List Int) (ws : List Nat), (∀ q ∈ qs, F ≤ q.1 ∧ 0 ≤ q.2 ∧ q ∈ nexts c a (insAt c a) h) → Fnd c F T hs0 hs ws ex → LeadOk c F T hs0 hs ws ex (leadsM T qs hs ws) qs
  | [], hs, ws, _, hI => ⟨fun e => (by cases e), fun _ q hq => (by cases hq), fun _ => Ext.refl _, fun _ => Nat.le_refl _, fun _ => hI⟩
  | q :: r, hs, ws, hqs, hI => by
    obtain ⟨h1, h2, h3⟩ := hqs q (by simp)
    have h4 := leadM_ok hl h1 h2 hI hm ht h3
    by_cases hb : (leadM T hs ws q).1 = true
    · have e : leadsM T (q :: r) hs ws = leadsM T r (leadM T hs ws q).2.1 (leadM T hs ws q).2.2 := by simp only [leadsM]; rw [if_pos hb]
      rw [e]
      have h5 := leadsM_ok hl hm ht r (leadM T hs ws q).2.1 (leadM T hs ws q).2.2 (fun y hy => hqs y (List.mem_cons_of_mem _ hy)) (h4.fnd hb)
      refine ⟨h5.bad, fun hb' y hy => ?_, fun hb' => (h4.ext hb).trans (h5.ext hb'), fun hb' => Nat.le_trans (h5.few hb') (h4.few hb), h5.fnd⟩
      rcases List.mem_cons.1 hy with rfl | hy
      · obtain ⟨g1, g2, g3⟩ := h4.at' hb y (by simp)
        exact ⟨g1, g2, ((h5.ext hb').2 _ (by rw [g3]; omega)).trans g3⟩
      · exact h5.at' hb' y hy
    · have e : leadsM T (q :: r) hs ws = leadM T hs ws q := by simp only [leadsM]; rw [if_neg hb]
      rw [e]
      have hf : (leadM T hs ws q).1 = false := by simpa using hb
      exact ⟨h4.bad, fun hb' => absurd hb' hb, fun hb' => absurd hb' hb, fun hb' => absurd hb' hb, fun hb' => absurd hb' hb⟩
/-- The last one that waits leads on. -/
theorem fromM_ok {c : CoM} {p : PrM} {F T : Nat} {hs0 hs : List Int} {ws : List Nat} {a : Nat} (hl : T ≤ c.is.length) (hF : p.frm = (F : Int)) (hT : p.to = (T : Int)) (hb : ∀ x ∈ body c p, inOk p c.ps.length x) (hI : Fnd c F T hs0 hs (ws ++ [a]) []) :
    ((fromM c T hs ws a).1 = false → Wrong c F T) ∧ ((fromM c T hs ws a).1 = true → 2 * unset (fromM c T hs ws a).2.1 + (fromM c T hs ws a).2.2.length ≤ 2 * unset hs + ws.length ∧ Fnd c F T hs0 (fromM c T hs ws a).2.1 (fromM c T hs ws a).2.2 []) := by
  obtain ⟨w1, w2, w3⟩ := hI.wait a (by simp)
  have hm := (hI.met a w1 w2).2 w3
  have hok := hb _ (ins_body hF hT hl w1 w2)
  by_cases ht : hAt hs a < takesM c (insAt c a)
  · have e : fromM c T hs ws a = (false, hs, ws) := by unfold fromM; rw [if_pos ht]
    rw [e]
    exact ⟨fun _ => .takes hm ht, fun e => (by cases e)⟩
  · have e : fromM c T hs ws a = leadsM T (nexts c a (insAt c a) (hAt hs a)) hs ws := by unfold fromM; rw [if_neg ht]
    rw [e]
    have ht' : takesM c (insAt c a) ≤ hAt hs a := by omega
    have hI' : Fnd c F T hs0 hs ws [a] := ⟨hI.len, hI.out, hI.first, hI.met, fun i hi => hI.wait i (List.mem_append.2 (.inl hi)), fun i h1 h2 h3 => by
      rcases hI.done i h1 h2 h3 with x | x | x
      · rcases List.mem_append.1 x with x | x
        · exact .inl x
        · exact .inr (.inl x)
      · cases x
      · exact .inr (.inr x)⟩
    have h5 := leadsM_ok hl hm ht' (nexts c a (insAt c a) (hAt hs a)) hs ws (fun q hq => ⟨nexts_ge c F p _ a _ _ hF hok w1 q hq, nexts_nn c a _ _ ht' w3 q hq, hq⟩) hI'
    refine ⟨h5.bad, fun hb' => ⟨h5.few hb', ?_⟩⟩
    have hf := h5.fnd hb'
    have he := h5.ext hb'
    refine ⟨hf.len, hf.out, hf.first, hf.met, hf.wait, fun i h1 h2 h3 => ?_⟩
    rcases hf.done i h1 h2 h3 with x | x | x
    · exact .inl x
    · simp at x; subst x
      have ea := he.2 i (by omega)
      rw [ea]
      exact .inr (.inr ⟨ht', fun q hq => h5.at' hb' q hq⟩)
    · exact .inr (.inr x)
/-- None waits any more: the heights are found. -/
theorem Fnd.hts {c : CoM} {F T : Nat} {hs0 hs : List Int} (h : Fnd c F T hs0 hs [] []) : HtsP c F T hs :=
  ⟨h.first, fun i h1 h2 h3 => by
    rcases h.done i h1 h2 h3 with x | x | x
    · cases x
    · cases x
    · exact x, fun i h1 h2 => ⟨(h.met i h1 h2).1.imp id And.left, (h.met i h1 h2).2⟩⟩
/-- The first one is given height 0. -/
theorem fnd_start {c : CoM} {F T : Nat} {hs0 : List Int} (hFT : F < T) (hl : T ≤ c.is.length) (hlen : hs0.length = c.is.length) (h0 : ∀ i, F ≤ i → i < T → hAt hs0 i = -1) :
    leadM T hs0 [] (F, 0) = (true, hs0.set F 0, [F]) ∧ Fnd c F T hs0 (hs0.set F 0) [F] [] := by
  have e : leadM T hs0 [] (F, 0) = (true, hs0.set F 0, [F]) := by
    unfold leadM
    rw [if_neg (by dsimp only; omega), if_pos (h0 F (Nat.le_refl _) hFT)]
    rfl
  refine ⟨e, ?_⟩
  have hs' := fun j => hAt_set hs0 F j 0 (by omega)
  refine ⟨by simp [hlen], fun i hi => ?_, ?_, fun i h1 h2 => ?_, fun i hi => ?_, fun i h1 h2 h3 => ?_⟩
  · rw [hs', if_neg (fun e => hi (by omega))]
  · rw [hs', if_pos rfl]
  · rw [hs']
    by_cases e : F = i
    · rw [if_pos e]; subst e; exact ⟨.inr (by omega), fun _ => .start⟩
    · rw [if_neg e, h0 i h1 h2]; exact ⟨.inl rfl, fun e => by omega⟩
  · simp at hi; subst hi; rw [hs', if_pos rfl]; exact ⟨Nat.le_refl _, hFT, by omega⟩
  · rw [hs'] at h3
    by_cases e : F = i
    · exact .inl (by simp [e])
    · rw [if_neg e, h0 i h1 h2] at h3; omega

end Go.Proofs.YthkpnbekkoompabGreatDoor
