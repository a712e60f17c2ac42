/-
  Code (layer 10): heights that are found by going through the row again and again (the document's own).
-/
import Derived.Test.YthkpnbekkoompabGreatDoorCoF
namespace Go.Proofs.YthkpnbekkoompabGreatDoor

/-- What holds within a round at place i; u0: how many had no height at the round's beginning. -/
structure Scn (c : CoM) (F T : Nat) (hs0 hs : List Int) (u0 i : Nat) (more : Bool) : Prop where
  len : hs.length = c.is.length
  out : ∀ i, ¬ (F ≤ i ∧ i < T) → hAt hs i = hAt hs0 i
  first : hAt hs F = 0
  met : ∀ i, F ≤ i → i < T → (hAt hs i = -1 ∨ (0 ≤ hAt hs i ∧ hAt hs i ≤ 200)) ∧ (0 ≤ hAt hs i → Met c F i (hAt hs i))
  few : unset hs + (if more then 1 else 0) ≤ u0
  done : more = false → ∀ j, F ≤ j → j < i → 0 ≤ hAt hs j → Done c T hs j (hAt hs j)
theorem Scn.put {c : CoM} {F T : Nat} {hs0 hs : List Int} {u0 i : Nat} {more : Bool} {a : Nat} {h : Int} {q : Nat × Int} (hI : Scn c F T hs0 hs u0 i more) (hl : T ≤ c.is.length) (hF : F ≤ q.1) (h0 : 0 ≤ q.2)
    (hm : Met c F a h) (ht : takesM c (insAt c a) ≤ h) (hq : q ∈ nexts c a (insAt c a) h) (hT : q.1 < T) (h2 : q.2 ≤ 200) (hn : hAt hs q.1 < 0) : Scn c F T hs0 (hs.set q.1 q.2) u0 i true ∧ Ext hs (hs.set q.1 q.2) ∧ hAt (hs.set q.1 q.2) q.1 = q.2 := by
  obtain ⟨I1, I2, I3, I4, I5, I6⟩ := hI
  have hn1 : hAt hs q.1 = -1 := by rcases (I4 q.1 hF hT).1 with x | x <;> omega
  have hlt : q.1 < hs.length := by omega
  have hu := unset_set hs q.1 q.2 hlt hn1 (by omega)
  have hs' := fun j => hAt_set hs q.1 j q.2 hlt
  refine ⟨⟨by simp [I1], fun i hi => ?_, ?_, fun i h1 h2 => ?_, ?_, fun e => by cases e⟩, Ext.set hlt hn1, by rw [hs', if_pos rfl]⟩
  · rw [hs', if_neg (fun e => hi (by omega))]; exact I2 i hi
  · rw [hs', if_neg (fun e => by rw [e, I3] at hn; omega)]; exact I3
  · rw [hs']
    by_cases e : q.1 = i
    · rw [if_pos e]; subst e
      exact ⟨.inr ⟨h0, by omega⟩, fun _ => Met.step hm ht hq⟩
    · rw [if_neg e]; exact I4 i h1 h2
  · rw [if_pos rfl]
    have : 0 ≤ (if more = true then 1 else 0) := by omega
    omega
theorem Scn.on {c : CoM} {F T : Nat} {hs0 hs : List Int} {u0 i : Nat} {more : Bool} (hI : Scn c F T hs0 hs u0 i more) (hd : 0 ≤ hAt hs i → Done c T hs i (hAt hs i)) : Scn c F T hs0 hs u0 (i + 1) more :=
  ⟨hI.len, hI.out, hI.first, hI.met, hI.few, fun e j h1 h2 h3 => by
    by_cases e2 : j = i
    · subst e2; exact hd h3
    · exact hI.done e j h1 (by omega) h3⟩
theorem Scn.hts {c : CoM} {F T : Nat} {hs0 hs : List Int} {u0 : Nat} (h : Scn c F T hs0 hs u0 T false) : HtsP c F T hs :=
  ⟨h.first, fun i h1 h2 h3 => h.done rfl i h1 h2 h3, fun i h1 h2 => ⟨(h.met i h1 h2).1.imp id And.left, (h.met i h1 h2).2⟩⟩
/-- A new round. -/
theorem Scn.again {c : CoM} {F T : Nat} {hs0 hs : List Int} {u0 i : Nat} {more : Bool} (h : Scn c F T hs0 hs u0 i more) : Scn c F T hs0 hs (unset hs) F false :=
  ⟨h.len, h.out, h.first, h.met, by simp, fun _ j h1 h2 => by omega⟩
theorem scn_start {c : CoM} {F T : Nat} {hs0 : List Int} (hFT : F < T) (hl : T ≤ c.is.length) (hlen : hs0.length = c.is.length) (h0 : ∀ i, F ≤ i → i < T → hAt hs0 i = -1) : Scn c F T hs0 (hs0.set F 0) (unset (hs0.set F 0)) F false := by
  have hf := (fnd_start hFT hl hlen h0).2
  exact ⟨hf.len, hf.out, hf.first, hf.met, by simp, fun _ j h1 h2 => by omega⟩

/-- Those that are found, procedure by procedure: n of them. -/
structure Upto (c : CoM) (hs : List Int) (n : Nat) : Prop where
  len : hs.length = c.is.length
  ok : ∀ k (h : k < c.ps.length), k < n → HtsP c (c.ps[k]).frm.toNat (c.ps[k]).to.toNat hs
  no : ∀ k (h : k < c.ps.length), n ≤ k → ∀ i, (c.ps[k]).frm.toNat ≤ i → i < (c.ps[k]).to.toNat → hAt hs i = -1
theorem Done.same {c : CoM} {T : Nat} {a b : List Int} {F i : Nat} {h : Int} (hd : Done c T a i h) (hF : ∀ q ∈ nexts c i (insAt c i) h, F ≤ q.1) (he : ∀ i, F ≤ i → i < T → hAt b i = hAt a i) : Done c T b i h :=
  ⟨hd.1, fun q hq => by
    obtain ⟨d1, d2, d3⟩ := hd.2 q hq
    exact ⟨d1, d2, (he q.1 (hF q hq) d1).trans d3⟩⟩
theorem HtsP.same {c : CoM} {p : PrM} {F T : Nat} {a b : List Int} (h : HtsP c F T a) (hFT : F < T) (hF : p.frm = (F : Int)) (hT : p.to = (T : Int)) (hl : T ≤ c.is.length) (hb : ∀ x ∈ body c p, inOk p c.ps.length x) (he : ∀ i, F ≤ i → i < T → hAt b i = hAt a i) : HtsP c F T b := by
  refine ⟨(he F (Nat.le_refl _) hFT).trans h.first, fun i h1 h2 h3 => ?_, fun i h1 h2 => ?_⟩
  · rw [he i h1 h2] at h3 ⊢
    exact (h.done i h1 h2 h3).same (fun q hq => nexts_ge c F p _ i _ _ hF (hb _ (ins_body hF hT hl h1 h2)) h1 q hq) he
  · rw [he i h1 h2]; exact h.met i h1 h2
/-- Procedures lie apart. -/
theorem ordB_apart : ∀ (ps : List PrM) (e : Int) (n : Nat), 0 ≤ e → ordB e ps = some (n : Int) → ∀ i j (hi : i < ps.length) (hj : j < ps.length), i < j → (ps[i]).to ≤ (ps[j]).frm
  | [], e, n, _, h, i, j, hi, _, _ => by simp at hi
  | p :: r, e, n, h0, h, i, j, hi, hj, hij => by
    unfold ordB at h
    split at h
    · rename_i hc
      match i, j with
      | 0, 0 => omega
      | i + 1, 0 => omega
      | 0, j + 1 =>
        have hj' : j < r.length := by simpa using hj
        have := (ordB_range r p.to n (by omega) h).2 r[j] (List.getElem_mem hj')
        simp only [List.getElem_cons_zero, List.getElem_cons_succ]
        omega
      | i + 1, j + 1 =>
        have := ordB_apart r p.to n (by omega) h i j (by simpa using hi) (by simpa using hj) (by omega)
        simpa using this
    · cases h
theorem Upto.step {c : CoM} {hs hs' : List Int} {k : Nat} (hst : StOk c) (h : Upto c hs k) (hk : k < c.ps.length) (hlen : hs'.length = c.is.length) (hout : ∀ i, ¬ ((c.ps[k]).frm.toNat ≤ i ∧ i < (c.ps[k]).to.toNat) → hAt hs' i = hAt hs i) (hp : HtsP c (c.ps[k]).frm.toNat (c.ps[k]).to.toNat hs') : Upto c hs' (k + 1) := by
  have hr := hst.1.range (List.getElem_mem hk)
  refine ⟨hlen, fun j hj hjk => ?_, fun j hj hjk i h1 h2 => ?_⟩
  · by_cases e : j = k
    · subst e; exact hp
    · have hrj := hst.1.range (List.getElem_mem hj)
      have ha := ordB_apart c.ps 0 c.is.length (by omega) hst.1.2 j k hj hk (by omega)
      exact (h.ok j hj (by omega)).same hrj.2.2.1 hrj.1 hrj.2.1 hrj.2.2.2 (hst.2 _ (List.getElem_mem hj)).2 fun i h1 h2 => hout i (by omega)
  · have ha := ordB_apart c.ps 0 c.is.length (by omega) hst.1.2 k j hk hj (by omega)
    have hrj := hst.1.range (List.getElem_mem hj)
    rw [hout i (by omega)]
    exact h.no j hj (by omega) i h1 h2
theorem Upto.all {c : CoM} {hs : List Int} (h : Upto c hs c.ps.length) : HtsC c hs := ⟨h.len, fun p hp => by
  obtain ⟨k, hk, rfl⟩ := List.mem_iff_getElem.1 hp
  exact h.ok k hk hk⟩
theorem hAt_replicate (n i : Nat) : hAt (List.replicate n (-1)) i = -1 := by
  unfold hAt
  rw [List.getD_eq_getElem?_getD, List.getElem?_replicate]
  split <;> rfl
theorem Upto.zero (c : CoM) : Upto c (List.replicate c.is.length (-1)) 0 := ⟨by simp, fun k _ h => by omega, fun k _ _ i _ _ => hAt_replicate _ _⟩
/-- Where something goes wrong code isn't good. -/
theorem wrong_bad {c : CoM} {k : Nat} (hst : StOk c) (hk : k < c.ps.length) (hw : Wrong c (c.ps[k]).frm.toNat (c.ps[k]).to.toNat) : ¬ GoodC c := fun hg => by
  obtain ⟨_, hs, h⟩ := hg
  have hr := hst.1.range (List.getElem_mem hk)
  exact hw.no (h.2 _ (List.getElem_mem hk)) hr.2.2.1 hr.1 hr.2.1 hr.2.2.2 (hst.2 _ (List.getElem_mem hk)).2

end Go.Proofs.YthkpnbekkoompabGreatDoor
