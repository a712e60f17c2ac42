/-
  Plain facts on a text's tokens: gone through one by one; blanks ahead; a comment behind; joined by blanks.
-/
import Derived.Test.YtccmodefjgjpeaaGreatDoorMathA
namespace Go.Proofs.YtccmodefjgjpeaaGreatDoor

theorem toksF_ne (t : List UInt8) : ∀ n k, t.length - k < n → k ≤ t.length → (toksF n t k).2 = none → (toksF n t k).1 ≠ [] := by
  intro n k hn hk h
  cases n with
  | zero => omega
  | succ n =>
    simp only [toksF] at h ⊢
    split
    · rename_i hb; rw [if_pos hb] at h; simp at h
    · split <;> simp
theorem toks_ne (t : List UInt8) (k : Nat) (hk : k ≤ t.length) (h : (toks t k).2 = none) : (toks t k).1 ≠ [] := toksF_ne t _ k (by omega) hk h

/-- The token at index i, gone through from the beginning, is the one behind place k. -/
def GoI (t : List UInt8) (l : List Tok) (i k : Nat) : Prop :=
  i ≤ l.length ∧ k ≤ t.length ∧ (i < l.length → toks t k = (l.drop i, none)) ∧ (i = l.length → k = t.length)
theorem goI_start (t : List UInt8) (l : List Tok) (h : toks t 0 = (l, none)) : GoI t l 0 0 := by
  refine ⟨Nat.zero_le _, Nat.zero_le _, fun _ => by simpa using h, fun h0 => ?_⟩
  have := toks_ne t 0 (Nat.zero_le _) (by rw [h])
  rw [h] at this
  exact absurd (List.eq_nil_of_length_eq_zero h0.symm) this
theorem goI_step (t : List UInt8) (l : List Tok) (i k : Nat) (h : GoI t l i k) (hi : i < l.length) :
    nextT t k = l[i] ∧ nextBad t k = false ∧ k ≤ (l[i]).lo ∧ (l[i]).lo ≤ (l[i]).hi ∧ (l[i]).hi ≤ t.length ∧ skipTo false t k = (l[i]).lo ∧
    ((l[i]).kind = 0 ↔ i = l.length - 1) ∧ ((l[i]).kind = 0 ↔ (l[i]).lo = (l[i]).hi) ∧ ((l[i]).kind ≠ 0 → tokL (t.drop (l[i]).lo) = ((l[i]).kind, (l[i]).hi - (l[i]).lo)) ∧ ((l[i]).kind = 0 → l[i] = ⟨0, t.length, t.length⟩) ∧ (l[i]).kind ≤ 4 ∧ GoI t l (i + 1) (l[i]).hi := by
  obtain ⟨h1, h2, h3, h4⟩ := h
  have ht := h3 hi
  have hle := nextT_le t k h2
  cases hb : nextBad t k
  · have hd : l.drop i = l[i] :: l.drop (i + 1) := List.drop_eq_getElem_cons hi
    have hlo : skipTo false t k = (nextT t k).lo := rfl
    have htk : tokL (t.drop (nextT t k).lo) = ((nextT t k).kind, (nextT t k).hi - (nextT t k).lo) := by
      simp only [nextT]
      rw [Nat.add_sub_cancel_left]
    have hz := tokL_zero (t.drop (nextT t k).lo)
    rw [htk] at hz
    dsimp only at hz
    by_cases h0 : (nextT t k).kind = 0
    · have he := toks_end t k hb h0
      rw [he, hd] at ht
      have hx : nextT t k = l[i] := (List.cons.inj (congrArg Prod.fst ht)).1
      have hn : l.drop (i + 1) = [] := (List.cons.inj (congrArg Prod.fst ht)).2.symm
      have hl : i + 1 = l.length := by
        have := congrArg List.length hn
        simp at this; omega
      have hend := nextT_end t k h2 hb h0
      rw [hx] at hle hlo htk hz h0 hend
      refine ⟨hx, rfl, hle.1, hle.2.1, hle.2.2.1, hlo, ⟨fun _ => by omega, fun _ => h0⟩, ⟨fun _ => by rw [hend], fun _ => h0⟩, fun h => absurd h0 h, fun _ => hend, hle.2.2.2, by omega, hle.2.2.1, fun h => by omega, fun _ => by rw [hend]⟩
    · have he := toks_more t k h2 hb h0
      rw [he, hd] at ht
      have hx : nextT t k = l[i] := (List.cons.inj (congrArg Prod.fst ht)).1
      have hn : (toks t (nextT t k).hi).1 = l.drop (i + 1) := (List.cons.inj (congrArg Prod.fst ht)).2
      have hn2 : (toks t (nextT t k).hi).2 = none := by have := congrArg Prod.snd ht; simpa using this
      have hne := toks_ne t (nextT t k).hi hle.2.2.1 hn2
      have hl : i + 1 < l.length := by
        rcases Nat.lt_or_ge (i + 1) l.length with h | h
        · exact h
        · rw [hn, List.drop_eq_nil_of_le h] at hne; exact absurd rfl hne
      have hp : toks t (nextT t k).hi = (l.drop (i + 1), none) := by rw [← hn, ← hn2]
      have hk := nextT_kind t k h0
      rw [hx] at hle hlo htk hz h0 hp hk
      refine ⟨hx, rfl, hle.1, hle.2.1, hle.2.2.1, hlo, ⟨fun h => absurd h h0, fun h => by omega⟩, ⟨fun h => absurd h h0, fun h => by omega⟩, fun _ => htk, fun h => absurd h h0, hle.2.2.2, by omega, hle.2.2.1, fun _ => hp, fun h => by omega⟩
  · have := toks_bad t k hb
    rw [this] at ht
    have := congrArg Prod.snd ht
    simp at this

/-! ### blanks ahead -/
def shift (m : Nat) (x : Tok) : Tok := ⟨x.kind, m + x.lo, m + x.hi⟩
theorem nextT_shift (a t : List UInt8) (k : Nat) : nextT (a ++ t) (a.length + k) = shift a.length (nextT t k) ∧ nextBad (a ++ t) (a.length + k) = nextBad t k := by
  have h1 : skipTo false (a ++ t) (a.length + k) = a.length + skipTo false t k := by
    unfold skipTo
    rw [List.drop_append, show a.length + k - a.length = k from by omega, List.drop_eq_nil_of_le (by omega), List.nil_append]
    omega
  have h2 : (a ++ t).drop (a.length + skipTo false t k) = t.drop (skipTo false t k) := by
    rw [List.drop_append, show a.length + skipTo false t k - a.length = skipTo false t k from by omega, List.drop_eq_nil_of_le (by omega), List.nil_append]
  have e : nextT (a ++ t) (a.length + k) = shift a.length (nextT t k) := by
    simp only [nextT, h1, h2, shift, Nat.add_assoc]
  refine ⟨e, ?_⟩
  unfold nextBad
  rw [e]
  simp only [shift, List.length_append]
  congr 1
  · rw [Bool.eq_iff_iff, beq_iff_eq, beq_iff_eq]; omega
  · rw [Bool.eq_iff_iff, decide_eq_true_iff, decide_eq_true_iff]; omega
theorem toks_shift (a t : List UInt8) : ∀ n k, t.length - k = n → k ≤ t.length → toks (a ++ t) (a.length + k) = ((toks t k).1.map (shift a.length), (toks t k).2.map (a.length + ·)) := by
  intro n
  induction n using Nat.strongRecOn with
  | ind n ih =>
    intro k hn hk
    obtain ⟨e1, e2⟩ := nextT_shift a t k
    have hle := nextT_le t k hk
    cases hb : nextBad t k
    · by_cases h0 : (nextT t k).kind = 0
      · rw [toks_end t k hb h0, toks_end (a ++ t) (a.length + k) (by rw [e2, hb]) (by rw [e1]; exact h0), e1]
        simp
      · have hk2 := nextT_kind t k h0
        rw [toks_more t k hk hb h0, toks_more (a ++ t) (a.length + k) (by simp; omega) (by rw [e2, hb]) (by rw [e1]; exact h0), e1]
        have := ih (t.length - (nextT t k).hi) (by omega) (nextT t k).hi rfl hle.2.2.1
        simp only [shift] at this ⊢
        rw [this]
        simp [shift]
    · rw [toks_bad t k hb, toks_bad (a ++ t) (a.length + k) (by rw [e2, hb]), e1]
      simp [shift]
theorem toks_from (t : List UInt8) (k j : Nat) (hk : k ≤ t.length) (hj : j ≤ t.length) (h : skipTo false t k = skipTo false t j) : toks t k = toks t j := by
  have e1 : nextT t k = nextT t j := by simp only [nextT, h]
  have e2 : nextBad t k = nextBad t j := by unfold nextBad; rw [e1]
  cases hb : nextBad t j
  · by_cases h0 : (nextT t j).kind = 0
    · rw [toks_end t k (by rw [e2, hb]) (by rw [e1, h0]), toks_end t j hb h0, e1]
    · rw [toks_more t k hk (by rw [e2, hb]) (by rw [e1]; exact h0), toks_more t j hj hb h0, e1]
  · rw [toks_bad t k (by rw [e2, hb]), toks_bad t j hb, e1]
theorem skipL_blanks (a t : List UInt8) (ha : ∀ c ∈ a, isBl c = true) : skipL false (a ++ t) = a.length + skipL false t := by
  induction a with
  | nil => simp
  | cons c a ih =>
    rw [List.cons_append]
    simp only [skipL]
    rw [if_pos (ha c (by simp)), ih (fun d hd => ha d (by simp [hd]))]
    simp; omega
theorem toks_blanks (a t : List UInt8) (ha : ∀ c ∈ a, isBl c = true) : toks (a ++ t) 0 = ((toks t 0).1.map (shift a.length), (toks t 0).2.map (a.length + ·)) := by
  rw [toks_from (a ++ t) 0 a.length (Nat.zero_le _) (by simp) ?_]
  · have := toks_shift a t t.length 0 (by omega) (Nat.zero_le _)
    rwa [Nat.add_zero] at this
  · unfold skipTo
    rw [List.drop_zero, skipL_blanks a t ha, List.drop_left]
    omega

/-! ### a token's bytes, and something behind them that is no part of it -/
theorem isAl_32 : isAl 32 = false := by decide
theorem isAl_10 : isAl 10 = false := by decide
theorem two_len (b : List UInt8) (h : isTwo b = true) : b.length = 2 := by
  have : ∀ b ∈ twoL, b.length = 2 := by decide
  exact this _ (by simpa [isTwo] using h)
theorem two_ne (c d : UInt8) (hd : d = 32 ∨ d = 10) : isTwo [c, d] = false := by
  rw [Bool.eq_false_iff]
  intro h
  have h2 : [c, d] ∈ twoL := by simpa [isTwo] using h
  have : ∀ b ∈ twoL, b[1]? ≠ some 32 ∧ b[1]? ≠ some 10 := by decide
  have h3 := this _ h2
  simp at h3
  rcases hd with rfl | rfl
  · exact h3.1 rfl
  · exact h3.2 rfl
/-- What stands behind: nothing, or a blank ahead. -/
def Sep (r : List UInt8) : Prop := r = [] ∨ ∃ d r', r = d :: r' ∧ (d = 32 ∨ d = 10)
theorem sep_run (p : UInt8 → Bool) (h32 : p 32 = false) (h10 : p 10 = false) (r : List UInt8) (h : Sep r) : run p r = 0 := by
  rcases h with rfl | ⟨d, r', rfl, rfl | rfl⟩
  · rfl
  · rw [run_cons, if_neg (by rw [h32]; simp)]
  · rw [run_cons, if_neg (by rw [h10]; simp)]
theorem sep_get (r : List UInt8) (h : Sep r) : (match r[0]? with | some c => isLet c | none => false) = false := by
  rcases h with rfl | ⟨d, r', rfl, rfl | rfl⟩
  · rfl
  · rfl
  · rfl
/-- The token ahead is the same, whatever stands behind its bytes, if it stands apart. -/
theorem tokL_sep (r q : List UInt8) (n k : Nat) (h : tokL r = (k, n)) (hk : k ≠ 0) (hq : Sep q) : tokL (r.take n ++ q) = (k, n) := by
  cases r with
  | nil => simp [tokL] at h; omega
  | cons c r =>
    simp only [tokL] at h
    by_cases hl : isLet c = true
    · rw [if_pos hl] at h
      have hn : run isAl (c :: r) = n := congrArg Prod.snd h
      have hkk : nameK ((c :: r).take (run isAl (c :: r))) = k := congrArg Prod.fst h
      rw [hn] at hkk
      have hpos : 0 < n := by rw [← hn, run_cons, if_pos (by simp [isAl, hl])]; omega
      obtain ⟨m, rfl⟩ : ∃ m, n = m + 1 := ⟨n - 1, by omega⟩
      have hall := run_take isAl (c :: r)
      rw [hn] at hall
      have hlen : ((c :: r).take (m + 1)).length = m + 1 := by
        have := run_le isAl (c :: r)
        rw [List.length_take]; omega
      have hr : run isAl ((c :: r).take (m + 1) ++ q) = m + 1 := by
        rw [run_append isAl _ q hall, hlen, sep_run isAl isAl_32 isAl_10 q hq]
      have ht : ((c :: r).take (m + 1) ++ q).take (m + 1) = (c :: r).take (m + 1) := by
        rw [List.take_append, hlen, Nat.sub_self, List.take_zero, List.append_nil, List.take_take, Nat.min_self]
      rw [List.take_succ_cons] at hr ht ⊢
      rw [List.cons_append] at hr ht ⊢
      simp only [tokL]
      rw [if_pos hl, hr, ht, ← List.take_succ_cons, hkk]
    · rw [if_neg hl] at h
      by_cases hd : isDig c = true
      · rw [if_pos hd] at h
        by_cases hb : numBad (c :: r) (run isDig (c :: r)) = true
        · rw [if_pos hb] at h
          have := congrArg Prod.fst h
          simp at this; omega
        · rw [if_neg hb] at h
          have hn : run isDig (c :: r) = n := congrArg Prod.snd h
          have hkk : 2 = k := congrArg Prod.fst h
          subst hkk
          rw [hn] at hb
          have hpos : 0 < n := by rw [← hn, run_cons, if_pos hd]; omega
          obtain ⟨m, rfl⟩ : ∃ m, n = m + 1 := ⟨n - 1, by omega⟩
          have hall := run_take isDig (c :: r)
          rw [hn] at hall
          have hlen : ((c :: r).take (m + 1)).length = m + 1 := by
            have := run_le isDig (c :: r)
            rw [List.length_take]; omega
          have hr : run isDig ((c :: r).take (m + 1) ++ q) = m + 1 := by
            rw [run_append isDig _ q hall, hlen, sep_run isDig (by decide) (by decide) q hq]
          have hnb : numBad ((c :: r).take (m + 1) ++ q) (m + 1) = false := by
            have hb' : numBad (c :: r) (m + 1) = false := by simpa using hb
            unfold numBad at hb' ⊢
            have hg : ((c :: r).take (m + 1) ++ q)[m + 1]? = q[0]? := by
              rw [List.getElem?_append_right (by omega), hlen, Nat.sub_self]
            have hh : ((c :: r).take (m + 1) ++ q).head? = (c :: r).head? := by simp
            simp only [Bool.or_eq_false_iff] at hb' ⊢
            rw [hg, hh]
            exact ⟨hb'.1, sep_get q hq⟩
          rw [List.take_succ_cons] at hr hnb ⊢
          rw [List.cons_append] at hr hnb ⊢
          simp only [tokL]
          rw [if_neg hl, if_pos hd, hr, hnb]
          simp
      · rw [if_neg hd] at h
        by_cases hs : signL (c :: r) = 0
        · rw [if_pos hs] at h
          have := congrArg Prod.fst h
          simp at this; omega
        · rw [if_neg hs] at h
          have hn : signL (c :: r) = n := congrArg Prod.snd h
          have hkk : 4 = k := congrArg Prod.fst h
          subst hkk
          have key : signL ((c :: r).take n ++ q) = n := by
            unfold signL at hn ⊢
            by_cases h2 : isTwo ((c :: r).take 2) = true
            · rw [if_pos h2] at hn
              subst hn
              have hl2 := two_len _ h2
              have : ((c :: r).take 2 ++ q).take 2 = (c :: r).take 2 := by
                rw [List.take_append, hl2, Nat.sub_self, List.take_zero, List.append_nil, List.take_take, Nat.min_self]
              rw [this, if_pos h2]
            · rw [if_neg h2] at hn
              by_cases h1 : isOne ((c :: r).take 1) = true
              · rw [if_pos h1] at hn
                subst hn
                have e1 : ((c :: r).take 1 ++ q).take 1 = (c :: r).take 1 := by simp
                have e2 : isTwo (((c :: r).take 1 ++ q).take 2) = false := by
                  rcases hq with rfl | ⟨d, r', rfl, hd'⟩
                  · rw [Bool.eq_false_iff]; intro h; have := two_len _ h; simp at this
                  · have : ((c :: r).take 1 ++ d :: r').take 2 = [c, d] := by simp
                    rw [this]; exact two_ne c d hd'
                rw [e2, e1, if_pos h1]; simp
              · rw [if_neg h1] at hn
                exact absurd (by unfold signL; rw [if_neg h2, if_neg h1]) hs
          have hpos : 0 < n := by omega
          obtain ⟨m, rfl⟩ : ∃ m, n = m + 1 := ⟨n - 1, by omega⟩
          rw [List.take_succ_cons, List.cons_append] at key ⊢
          simp only [tokL]
          rw [if_neg hl, if_neg hd, key]
          simp
/-- A token's first byte is no blank and no #. -/
theorem tokL_first (c : UInt8) (r : List UInt8) (h : (tokL (c :: r)).1 ≠ 0) : isBl c = false ∧ c ≠ 35 := by
  have key : ∀ d : UInt8, (isBl d = true ∨ d = 35) → isLet d = false ∧ isDig d = false ∧ isOne [d] = false ∧ ∀ b ∈ twoL, b.head? ≠ some d := by
    intro d hd
    have : d = 32 ∨ d = 9 ∨ d = 10 ∨ d = 13 ∨ d = 35 := by
      rcases hd with hd | hd
      · simp only [isBl, Bool.or_eq_true, beq_iff_eq] at hd
        rcases hd with ((h | h) | h) | h
        · exact .inl h
        · exact .inr (.inl h)
        · exact .inr (.inr (.inl h))
        · exact .inr (.inr (.inr (.inl h)))
      · right; right; right; right; exact hd
    rcases this with rfl | rfl | rfl | rfl | rfl <;> decide
  by_cases hc : isBl c = true ∨ c = 35
  · obtain ⟨h1, h2, h3, h4⟩ := key c hc
    exfalso
    apply h
    have hs : signL (c :: r) = 0 := by
      unfold signL
      have e2 : ¬ isTwo ((c :: r).take 2) = true := fun ht => by
        have hm : (c :: r).take 2 ∈ twoL := by simpa [isTwo] using ht
        exact h4 _ hm (by simp)
      rw [if_neg e2]
      have : (c :: r).take 1 = [c] := by simp
      rw [this, h3]; simp
    simp only [tokL]
    rw [if_neg (by rw [h1]; simp), if_neg (by rw [h2]; simp), if_pos hs]
  · constructor
    · rw [Bool.eq_false_iff]; exact fun h => hc (.inl h)
    · exact fun h => hc (.inr h)

end Go.Proofs.YtccmodefjgjpeaaGreatDoor
