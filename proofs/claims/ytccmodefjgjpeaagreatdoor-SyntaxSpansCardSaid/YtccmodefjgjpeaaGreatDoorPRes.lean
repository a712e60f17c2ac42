/-
  What the grammar makes of any text: a place of it, an error that is one; or one function at least.
-/
import Derived.Test.YtccmodefjgjpeaaGreatDoorPTok
namespace Go.Proofs.YtccmodefjgjpeaaGreatDoor

theorem bd_inv {α β : Type} {x : Ps α} {f : α → Ps β} {s s' : Sg} {b : β} (h : bd x f s = .ok b s') : ∃ a s1, x s = .ok a s1 ∧ f a s1 = .ok b s' := by
  unfold bd at h
  cases hx : x s with
  | no c i => rw [hx] at h; cases h
  | ok a s1 => rw [hx] at h; exact ⟨a, s1, rfl, h⟩
theorem fun_ne {T : List Tk} {s s' : Sg} {u : Unit} (h : functionM T s = .ok u s') : s'.fn ≠ [] := by
  unfold functionM at h
  by_cases hc : (isP T [kFunc] s && s.fn.length == 32) = true
  · rw [if_pos hc] at h; cases h
  · rw [if_neg hc] at h
    obtain ⟨_, _, _, h⟩ := bd_inv h
    obtain ⟨_, _, _, h⟩ := bd_inv h
    obtain ⟨_, _, _, h⟩ := bd_inv h
    obtain ⟨_, _, _, h⟩ := bd_inv h
    obtain ⟨_, _, _, h⟩ := bd_inv h
    unfold putF at h
    injection h with h1 h2
    rw [← h2]
    simp
theorem programL_ne {T : List Tk} : ∀ (n : Nat) {s s' : Sg} {u : Unit}, s.fn ≠ [] → programL T n s = .ok u s' → s'.fn ≠ []
  | 0, _, _, _, _, h => by unfold programL at h; cases h
  | n + 1, s, s', u, h0, h => by
    unfold programL at h
    by_cases hc : isK T 0 s = true
    · rw [if_pos hc] at h; injection h with h1 h2; rw [← h2]; exact h0
    · rw [if_neg hc] at h
      obtain ⟨_, s1, h1, h2⟩ := bd_inv h
      exact programL_ne n (fun_ne h1) h2
theorem program_ne {T : List Tk} {s s' : Sg} {u : Unit} (h : programM T s = .ok u s') : s'.fn ≠ [] := by
  unfold programM at h
  obtain ⟨_, s1, h1, h2⟩ := bd_inv h
  exact programL_ne _ (fun_ne h1) h2
theorem toksF_place (t : List UInt8) : ∀ n k p, k ≤ t.length → (toksF n t k).2 = some p → p ≤ t.length := by
  intro n
  induction n with
  | zero => intro k p _ h; simp [toksF] at h
  | succ n ih =>
    intro k p hk h
    have hle := nextT_le t k hk
    simp only [toksF] at h
    by_cases h1 : nextBad t k = true
    · rw [if_pos h1] at h
      have := Option.some.inj h
      omega
    · rw [if_neg h1] at h
      by_cases h0 : (nextT t k).kind = 0
      · rw [if_pos h0] at h; cases h
      · rw [if_neg h0] at h
        exact ih _ _ hle.2.2.1 h
theorem lo_le (t : List UInt8) (hp : (toks t 0).2 = none) (i : Nat) (hi : i < (tksL t).length) : loOf (tksL t) i ≤ t.length := by
  obtain ⟨pre, hpre, hin⟩ := toks_tk t hp
  have hm : (tksL t)[i] ∈ tksL t := List.getElem_mem hi
  have e : loOf (tksL t) i = (tksL t)[i].lo := by simp [loOf, hi]
  rw [e]
  generalize (tksL t)[i] = x at hm ⊢
  unfold tksL at hm
  rw [hpre] at hm
  obtain ⟨y, hy, rfl⟩ := List.mem_map.1 hm
  rcases List.mem_append.1 hy with h | h
  · obtain ⟨_, a2, a3, _⟩ := hin y h
    show y.lo ≤ t.length
    omega
  · simp at h; subst h; exact Nat.le_refl _
theorem parseT_bad {t : List UInt8} {p c : Nat} (h : parseT t = .bad p c) : p ≤ t.length ∧ (c = 2 ∨ c = 3 ∨ c = 4 ∨ c = 5) := by
  unfold parseT at h
  cases hp : (toks t 0).2 with
  | some q =>
    rw [hp] at h
    injection h with h1 h2
    subst h1 h2
    exact ⟨toksF_place t _ 0 q (Nat.zero_le _) hp, .inl rfl⟩
  | none =>
    rw [hp] at h
    dsimp only at h
    have hf := fine_program (tksL_ok t hp) start (tksL_ok t hp).pos
    cases hr : programM (tksL t) start with
    | ok u s => rw [hr] at h; cases h
    | no d i =>
      rw [hr] at h hf
      injection h with h1 h2
      subst h1 h2
      exact ⟨lo_le t hp i hf.2, .inr hf.1⟩
theorem parseT_good {t : List UInt8} {s : Sg} (h : parseT t = .good s) : 0 < s.fn.length := by
  unfold parseT at h
  cases hp : (toks t 0).2 with
  | some q => rw [hp] at h; cases h
  | none =>
    rw [hp] at h
    dsimp only at h
    cases hr : programM (tksL t) start with
    | no d i => rw [hr] at h; cases h
    | ok u s' =>
      rw [hr] at h
      injection h with h1
      subst h1
      have := program_ne hr
      cases hs : s'.fn with
      | nil => exact absurd hs this
      | cons a b => simp

end Go.Proofs.YtccmodefjgjpeaaGreatDoor
