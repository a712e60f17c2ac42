/-
  A text's tokens with their bytes; what the grammar makes of a text.
-/
import Derived.Test.YtccmodefjgjpeaaGreatDoorMathJ
import Derived.Test.YtccmodefjgjpeaaGreatDoorPF
namespace Go.Proofs.YtccmodefjgjpeaaGreatDoor

theorem tok_num (r : List UInt8) (h : (tokL r).1 = 2) : (tokL r).2 ≤ 18 ∧ ∀ c ∈ r.take (tokL r).2, isDig c = true := by
  cases r with
  | nil => simp [tokL] at h
  | cons c r =>
    simp only [tokL] at h ⊢
    by_cases h1 : isLet c = true
    · rw [if_pos h1] at h
      simp only [nameK] at h
      split at h <;> simp at h
    · rw [if_neg h1] at h ⊢
      by_cases h2 : isDig c = true
      · rw [if_pos h2] at h ⊢
        by_cases h3 : numBad (c :: r) (run isDig (c :: r)) = true
        · rw [if_pos h3] at h; simp at h
        · rw [if_neg h3]
          refine ⟨?_, run_take isDig (c :: r)⟩
          simp only [numBad, Bool.or_eq_true, decide_eq_true_eq, not_or] at h3
          omega
      · rw [if_neg h2] at h
        split at h <;> simp at h
/-- The tokens of a text that has such: at the end the End alone. -/
def Inner (t : List UInt8) (k : Nat) (x : Tok) : Prop := x.kind ≠ 0 ∧ x.lo < x.hi ∧ x.hi ≤ t.length ∧ k ≤ x.lo ∧ (x.kind = 2 → x.hi - x.lo ≤ 18 ∧ ∀ c ∈ bytesOf t x, isDig c = true)
theorem toksF_tk (t : List UInt8) : ∀ n k, t.length - k < n → k ≤ t.length → (toksF n t k).2 = none → ∃ pre, (toksF n t k).1 = pre ++ [⟨0, t.length, t.length⟩] ∧ ∀ x ∈ pre, Inner t k x := by
  intro n
  induction n with
  | zero => intro k h; omega
  | succ n ih =>
    intro k hn hk hb
    simp only [toksF] at hb ⊢
    by_cases h1 : nextBad t k = true
    · rw [if_pos h1] at hb; simp at hb
    · rw [if_neg h1] at hb ⊢
      by_cases h0 : (nextT t k).kind = 0
      · rw [if_pos h0] at hb ⊢
        exact ⟨[], by rw [nextT_end t k hk (by simpa using h1) h0]; rfl, by simp⟩
      · rw [if_neg h0] at hb ⊢
        have hle := nextT_le t k hk
        have hlt := nextT_kind t k h0
        obtain ⟨pre, hp, hq⟩ := ih (nextT t k).hi (by omega) (by omega) hb
        refine ⟨nextT t k :: pre, by rw [hp]; rfl, fun x hx => ?_⟩
        rcases List.mem_cons.1 hx with rfl | hx
        · refine ⟨h0, hlt, by omega, by omega, fun h2 => ?_⟩
          have h3 := tok_num (t.drop (skipTo false t k)) h2
          simp only [nextT, bytesOf]
          rw [Nat.add_sub_cancel_left]
          exact h3
        · obtain ⟨a1, a2, a3, a4, a5⟩ := hq x hx
          exact ⟨a1, a2, a3, by omega, a5⟩
theorem toks_tk (t : List UInt8) (h : (toks t 0).2 = none) : ∃ pre, (toks t 0).1 = pre ++ [⟨0, t.length, t.length⟩] ∧ ∀ x ∈ pre, Inner t 0 x := toksF_tk t _ 0 (by omega) (by omega) h

def tkOf (t : List UInt8) (x : Tok) : Tk := ⟨x.kind, x.lo, x.hi, bytesOf t x⟩
def tksL (t : List UInt8) : List Tk := (toks t 0).1.map (tkOf t)
theorem tksL_ok (t : List UInt8) (h : (toks t 0).2 = none) : TkOk (tksL t) := by
  obtain ⟨pre, hp, hq⟩ := toks_tk t h
  unfold tksL
  rw [hp]
  constructor
  · simp
  · intro i hi hne
    simp only [List.length_map, List.length_append, List.length_singleton] at hi ⊢
    rcases Nat.lt_or_ge i pre.length with hlt | hge
    · omega
    · exfalso
      have hie : i = pre.length := by omega
      subst hie
      simp [tkOf, bytesOf] at hne
  · intro i hi h2
    simp only [List.length_map, List.length_append, List.length_singleton] at hi
    rcases Nat.lt_or_ge i pre.length with hlt | hge
    · have hx : pre[i] ∈ pre := List.getElem_mem hlt
      obtain ⟨a1, a2, a3, a4, a5⟩ := hq _ hx
      have e : ((pre ++ [(⟨0, t.length, t.length⟩ : Tok)]).map (tkOf t))[i]'(by simp; omega) = tkOf t pre[i] := by
        rw [List.getElem_map, List.getElem_append_left hlt]
      rw [e] at h2 ⊢
      obtain ⟨b1, b2⟩ := a5 h2
      have hl : (bytesOf t pre[i]).length = pre[i].hi - pre[i].lo := by simp [bytesOf]; omega
      refine ⟨fun e => ?_, ?_, fun c hc => ?_⟩
      · simp only [tkOf] at e
        rw [e] at hl; simp at hl; omega
      · simp only [tkOf]; omega
      · have := b2 c hc
        simp only [isDig, Bool.and_eq_true, decide_eq_true_eq] at this
        have h1 := UInt8.le_iff_toNat_le.1 this.1
        have h3 := UInt8.le_iff_toNat_le.1 this.2
        exact ⟨h1, h3⟩
    · exfalso
      have hie : i = pre.length := by omega
      subst hie
      simp [tkOf] at h2
/-- Where something is wrong, and what; or what was put. -/
inductive Res0 where
  | bad : Nat → Nat → Res0
  | good : Sg → Res0
def loOf (T : List Tk) (i : Nat) : Nat := (T.getD i ⟨0, 0, 0, []⟩).lo
def parseT (t : List UInt8) : Res0 := match (toks t 0).2 with
  | some p => .bad p 2
  | none => match programM (tksL t) start with
    | .ok _ s => .good s
    | .no c i => .bad (loOf (tksL t) i) c

theorem toksF_len' (t : List UInt8) : ∀ n k, k ≤ t.length → (toksF n t k).1.length + k ≤ t.length + 1 := by
  intro n
  induction n with
  | zero => intro k hk; simp [toksF]; omega
  | succ n ih =>
    intro k hk
    rw [toksF]
    split
    · simp; omega
    · split
      · simp; omega
      · rename_i h0
        have h1 := nextT_le t k hk
        have h2 := nextT_kind t k h0
        have := ih (nextT t k).hi (by omega)
        simp; omega
theorem toks_len' (t : List UInt8) : (toks t 0).1.length ≤ t.length + 1 := by
  have := toksF_len' t (t.length - 0 + 1) 0 (Nat.zero_le _)
  unfold toks
  omega

end Go.Proofs.YtccmodefjgjpeaaGreatDoor
