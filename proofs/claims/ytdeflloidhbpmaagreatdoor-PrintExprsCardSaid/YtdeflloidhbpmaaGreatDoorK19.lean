/-
  Plain facts on a text's tokens: gone through one by one; blanks ahead; a comment behind; joined by blanks.
  Plain facts on tokens: a comment behind a text; tokens' bytes joined by blanks.
  A text's tokens with their bytes; what the grammar makes of a text.
  Plain facts on signs: the first of the table that fits.
  strings.HasPrefix; the sign at a place.
-/
import Derived.Test.YtdeflloidhbpmaaGreatDoorK00
import Derived.Test.YtdeflloidhbpmaaGreatDoorK04
import Derived.Test.YtdeflloidhbpmaaGreatDoorK03
import Derived.Deep.MidRow
namespace Go.Proofs.YtdeflloidhbpmaaGreatDoor

theorem toksF_ne (t : List UInt8) : ∀ n k, t.length - k < n → k ≤ t.length → (toksF n t k).2 = none → (toksF n t k).1 ≠ [] := by
  intro n k hn hk h
  cases n with
  | zero => omega
  | succ n =>
    simp only [toksF] at h ⊢
    split
    · rename_i hb; rw [if_pos hb] at h; simp at h
    · split <;> simp
theorem toks_ne (t : List UInt8) (k : Nat) (hk : k ≤ t.length) (h : (toks t k).2 = none) : (toks t k).1 ≠ [] := toksF_ne t _ k (by omega) hk h

/-- The token at index i, gone through from the beginning, is the one behind place k. -/
def GoI (t : List UInt8) (l : List Tok) (i k : Nat) : Prop :=
  i ≤ l.length ∧ k ≤ t.length ∧ (i < l.length → toks t k = (l.drop i, none)) ∧ (i = l.length → k = t.length)
theorem goI_start (t : List UInt8) (l : List Tok) (h : toks t 0 = (l, none)) : GoI t l 0 0 := by
  refine ⟨Nat.zero_le _, Nat.zero_le _, fun _ => by simpa using h, fun h0 => ?_⟩
  have := toks_ne t 0 (Nat.zero_le _) (by rw [h])
  rw [h] at this
  exact absurd (List.eq_nil_of_length_eq_zero h0.symm) this
theorem goI_step (t : List UInt8) (l : List Tok) (i k : Nat) (h : GoI t l i k) (hi : i < l.length) :
    nextT t k = l[i] ∧ nextBad t k = false ∧ k ≤ (l[i]).lo ∧ (l[i]).lo ≤ (l[i]).hi ∧ (l[i]).hi ≤ t.length ∧ skipTo false t k = (l[i]).lo ∧
    ((l[i]).kind = 0 ↔ i = l.length - 1) ∧ ((l[i]).kind = 0 ↔ (l[i]).lo = (l[i]).hi) ∧ ((l[i]).kind ≠ 0 → tokL (t.drop (l[i]).lo) = ((l[i]).kind, (l[i]).hi - (l[i]).lo)) ∧ ((l[i]).kind = 0 → l[i] = ⟨0, t.length, t.length⟩) ∧ (l[i]).kind ≤ 4 ∧ GoI t l (i + 1) (l[i]).hi := by
  obtain ⟨h1, h2, h3, h4⟩ := h
  have ht := h3 hi
  have hle := nextT_le t k h2
  cases hb : nextBad t k
  · have hd : l.drop i = l[i] :: l.drop (i + 1) := List.drop_eq_getElem_cons hi
    have hlo : skipTo false t k = (nextT t k).lo := rfl
    have htk : tokL (t.drop (nextT t k).lo) = ((nextT t k).kind, (nextT t k).hi - (nextT t k).lo) := by
      simp only [nextT]
      rw [Nat.add_sub_cancel_left]
    have hz := tokL_zero (t.drop (nextT t k).lo)
    rw [htk] at hz
    dsimp only at hz
    by_cases h0 : (nextT t k).kind = 0
    · have he := toks_end t k hb h0
      rw [he, hd] at ht
      have hx : nextT t k = l[i] := (List.cons.inj (congrArg Prod.fst ht)).1
      have hn : l.drop (i + 1) = [] := (List.cons.inj (congrArg Prod.fst ht)).2.symm
      have hl : i + 1 = l.length := by
        have := congrArg List.length hn
        simp at this; omega
      have hend := nextT_end t k h2 hb h0
      rw [hx] at hle hlo htk hz h0 hend
      refine ⟨hx, rfl, hle.1, hle.2.1, hle.2.2.1, hlo, ⟨fun _ => by omega, fun _ => h0⟩, ⟨fun _ => by rw [hend], fun _ => h0⟩, fun h => absurd h0 h, fun _ => hend, hle.2.2.2, by omega, hle.2.2.1, fun h => by omega, fun _ => by rw [hend]⟩
    · have he := toks_more t k h2 hb h0
      rw [he, hd] at ht
      have hx : nextT t k = l[i] := (List.cons.inj (congrArg Prod.fst ht)).1
      have hn : (toks t (nextT t k).hi).1 = l.drop (i + 1) := (List.cons.inj (congrArg Prod.fst ht)).2
      have hn2 : (toks t (nextT t k).hi).2 = none := by have := congrArg Prod.snd ht; simpa using this
      have hne := toks_ne t (nextT t k).hi hle.2.2.1 hn2
      have hl : i + 1 < l.length := by
        rcases Nat.lt_or_ge (i + 1) l.length with h | h
        · exact h
        · rw [hn, List.drop_eq_nil_of_le h] at hne; exact absurd rfl hne
      have hp : toks t (nextT t k).hi = (l.drop (i + 1), none) := by rw [← hn, ← hn2]
      have hk := nextT_kind t k h0
      rw [hx] at hle hlo htk hz h0 hp hk
      refine ⟨hx, rfl, hle.1, hle.2.1, hle.2.2.1, hlo, ⟨fun h => absurd h h0, fun h => by omega⟩, ⟨fun h => absurd h h0, fun h => by omega⟩, fun _ => htk, fun h => absurd h h0, hle.2.2.2, by omega, hle.2.2.1, fun _ => hp, fun h => by omega⟩
  · have := toks_bad t k hb
    rw [this] at ht
    have := congrArg Prod.snd ht
    simp at this

/-! ### blanks ahead -/
def shift (m : Nat) (x : Tok) : Tok := ⟨x.kind, m + x.lo, m + x.hi⟩
theorem nextT_shift (a t : List UInt8) (k : Nat) : nextT (a ++ t) (a.length + k) = shift a.length (nextT t k) ∧ nextBad (a ++ t) (a.length + k) = nextBad t k := by
  have h1 : skipTo false (a ++ t) (a.length + k) = a.length + skipTo false t k := by
    unfold skipTo
    rw [List.drop_append, show a.length + k - a.length = k from by omega, List.drop_eq_nil_of_le (by omega), List.nil_append]
    omega
  have h2 : (a ++ t).drop (a.length + skipTo false t k) = t.drop (skipTo false t k) := by
    rw [List.drop_append, show a.length + skipTo false t k - a.length = skipTo false t k from by omega, List.drop_eq_nil_of_le (by omega), List.nil_append]
  have e : nextT (a ++ t) (a.length + k) = shift a.length (nextT t k) := by
    simp only [nextT, h1, h2, shift, Nat.add_assoc]
  refine ⟨e, ?_⟩
  unfold nextBad
  rw [e]
  simp only [shift, List.length_append]
  congr 1
  · rw [Bool.eq_iff_iff, beq_iff_eq, beq_iff_eq]; omega
  · rw [Bool.eq_iff_iff, decide_eq_true_iff, decide_eq_true_iff]; omega
theorem toks_shift (a t : List UInt8) : ∀ n k, t.length - k = n → k ≤ t.length → toks (a ++ t) (a.length + k) = ((toks t k).1.map (shift a.length), (toks t k).2.map (a.length + ·)) := by
  intro n
  induction n using Nat.strongRecOn with
  | ind n ih =>
    intro k hn hk
    obtain ⟨e1, e2⟩ := nextT_shift a t k
    have hle := nextT_le t k hk
    cases hb : nextBad t k
    · by_cases h0 : (nextT t k).kind = 0
      · rw [toks_end t k hb h0, toks_end (a ++ t) (a.length + k) (by rw [e2, hb]) (by rw [e1]; exact h0), e1]
        simp
      · have hk2 := nextT_kind t k h0
        rw [toks_more t k hk hb h0, toks_more (a ++ t) (a.length + k) (by simp; omega) (by rw [e2, hb]) (by rw [e1]; exact h0), e1]
        have := ih (t.length - (nextT t k).hi) (by omega) (nextT t k).hi rfl hle.2.2.1
        simp only [shift] at this ⊢
        rw [this]
        simp [shift]
    · rw [toks_bad t k hb, toks_bad (a ++ t) (a.length + k) (by rw [e2, hb]), e1]
      simp [shift]
theorem toks_from (t : List UInt8) (k j : Nat) (hk : k ≤ t.length) (hj : j ≤ t.length) (h : skipTo false t k = skipTo false t j) : toks t k = toks t j := by
  have e1 : nextT t k = nextT t j := by simp only [nextT, h]
  have e2 : nextBad t k = nextBad t j := by unfold nextBad; rw [e1]
  cases hb : nextBad t j
  · by_cases h0 : (nextT t j).kind = 0
    · rw [toks_end t k (by rw [e2, hb]) (by rw [e1, h0]), toks_end t j hb h0, e1]
    · rw [toks_more t k hk (by rw [e2, hb]) (by rw [e1]; exact h0), toks_more t j hj hb h0, e1]
  · rw [toks_bad t k (by rw [e2, hb]), toks_bad t j hb, e1]
theorem skipL_blanks (a t : List UInt8) (ha : ∀ c ∈ a, isBl c = true) : skipL false (a ++ t) = a.length + skipL false t := by
  induction a with
  | nil => simp
  | cons c a ih =>
    rw [List.cons_append]
    simp only [skipL]
    rw [if_pos (ha c (by simp)), ih (fun d hd => ha d (by simp [hd]))]
    simp; omega
theorem toks_blanks (a t : List UInt8) (ha : ∀ c ∈ a, isBl c = true) : toks (a ++ t) 0 = ((toks t 0).1.map (shift a.length), (toks t 0).2.map (a.length + ·)) := by
  rw [toks_from (a ++ t) 0 a.length (Nat.zero_le _) (by simp) ?_]
  · have := toks_shift a t t.length 0 (by omega) (Nat.zero_le _)
    rwa [Nat.add_zero] at this
  · unfold skipTo
    rw [List.drop_zero, skipL_blanks a t ha, List.drop_left]
    omega

/-! ### a token's bytes, and something behind them that is no part of it -/
theorem isAl_32 : isAl 32 = false := by decide
theorem isAl_10 : isAl 10 = false := by decide
theorem two_len (b : List UInt8) (h : isTwo b = true) : b.length = 2 := by
  have : ∀ b ∈ twoL, b.length = 2 := by decide
  exact this _ (by simpa [isTwo] using h)
theorem two_ne (c d : UInt8) (hd : d = 32 ∨ d = 10) : isTwo [c, d] = false := by
  rw [Bool.eq_false_iff]
  intro h
  have h2 : [c, d] ∈ twoL := by simpa [isTwo] using h
  have : ∀ b ∈ twoL, b[1]? ≠ some 32 ∧ b[1]? ≠ some 10 := by decide
  have h3 := this _ h2
  simp at h3
  rcases hd with rfl | rfl
  · exact h3.1 rfl
  · exact h3.2 rfl
/-- What stands behind: nothing, or a blank ahead. -/
def Sep (r : List UInt8) : Prop := r = [] ∨ ∃ d r', r = d :: r' ∧ (d = 32 ∨ d = 10)
theorem sep_run (p : UInt8 → Bool) (h32 : p 32 = false) (h10 : p 10 = false) (r : List UInt8) (h : Sep r) : run p r = 0 := by
  rcases h with rfl | ⟨d, r', rfl, rfl | rfl⟩
  · rfl
  · rw [run_cons, if_neg (by rw [h32]; simp)]
  · rw [run_cons, if_neg (by rw [h10]; simp)]
theorem sep_get (r : List UInt8) (h : Sep r) : (match r[0]? with | some c => isLet c | none => false) = false := by
  rcases h with rfl | ⟨d, r', rfl, rfl | rfl⟩
  · rfl
  · rfl
  · rfl
/-- The token ahead is the same, whatever stands behind its bytes, if it stands apart. -/
theorem tokL_sep (r q : List UInt8) (n k : Nat) (h : tokL r = (k, n)) (hk : k ≠ 0) (hq : Sep q) : tokL (r.take n ++ q) = (k, n) := by
  cases r with
  | nil => simp [tokL] at h; omega
  | cons c r =>
    simp only [tokL] at h
    by_cases hl : isLet c = true
    · rw [if_pos hl] at h
      have hn : run isAl (c :: r) = n := congrArg Prod.snd h
      have hkk : nameK ((c :: r).take (run isAl (c :: r))) = k := congrArg Prod.fst h
      rw [hn] at hkk
      have hpos : 0 < n := by rw [← hn, run_cons, if_pos (by simp [isAl, hl])]; omega
      obtain ⟨m, rfl⟩ : ∃ m, n = m + 1 := ⟨n - 1, by omega⟩
      have hall := run_take isAl (c :: r)
      rw [hn] at hall
      have hlen : ((c :: r).take (m + 1)).length = m + 1 := by
        have := run_le isAl (c :: r)
        rw [List.length_take]; omega
      have hr : run isAl ((c :: r).take (m + 1) ++ q) = m + 1 := by
        rw [run_append isAl _ q hall, hlen, sep_run isAl isAl_32 isAl_10 q hq]
      have ht : ((c :: r).take (m + 1) ++ q).take (m + 1) = (c :: r).take (m + 1) := by
        rw [List.take_append, hlen, Nat.sub_self, List.take_zero, List.append_nil, List.take_take, Nat.min_self]
      rw [List.take_succ_cons] at hr ht ⊢
      rw [List.cons_append] at hr ht ⊢
      simp only [tokL]
      rw [if_pos hl, hr, ht, ← List.take_succ_cons, hkk]
    · rw [if_neg hl] at h
      by_cases hd : isDig c = true
      · rw [if_pos hd] at h
        by_cases hb : numBad (c :: r) (run isDig (c :: r)) = true
        · rw [if_pos hb] at h
          have := congrArg Prod.fst h
          simp at this; omega
        · rw [if_neg hb] at h
          have hn : run isDig (c :: r) = n := congrArg Prod.snd h
          have hkk : 2 = k := congrArg Prod.fst h
          subst hkk
          rw [hn] at hb
          have hpos : 0 < n := by rw [← hn, run_cons, if_pos hd]; omega
          obtain ⟨m, rfl⟩ : ∃ m, n = m + 1 := ⟨n - 1, by omega⟩
          have hall := run_take isDig (c :: r)
          rw [hn] at hall
          have hlen : ((c :: r).take (m + 1)).length = m + 1 := by
            have := run_le isDig (c :: r)
            rw [List.length_take]; omega
          have hr : run isDig ((c :: r).take (m + 1) ++ q) = m + 1 := by
            rw [run_append isDig _ q hall, hlen, sep_run isDig (by decide) (by decide) q hq]
          have hnb : numBad ((c :: r).take (m + 1) ++ q) (m + 1) = false := by
            have hb' : numBad (c :: r) (m + 1) = false := by simpa using hb
            unfold numBad at hb' ⊢
            have hg : ((c :: r).take (m + 1) ++ q)[m + 1]? = q[0]? := by
              rw [List.getElem?_append_right (by omega), hlen, Nat.sub_self]
            have hh : ((c :: r).take (m + 1) ++ q).head? = (c :: r).head? := by simp
            simp only [Bool.or_eq_false_iff] at hb' ⊢
            rw [hg, hh]
            exact ⟨hb'.1, sep_get q hq⟩
          rw [List.take_succ_cons] at hr hnb ⊢
          rw [List.cons_append] at hr hnb ⊢
          simp only [tokL]
          rw [if_neg hl, if_pos hd, hr, hnb]
          simp
      · rw [if_neg hd] at h
        by_cases hs : signL (c :: r) = 0
        · rw [if_pos hs] at h
          have := congrArg Prod.fst h
          simp at this; omega
        · rw [if_neg hs] at h
          have hn : signL (c :: r) = n := congrArg Prod.snd h
          have hkk : 4 = k := congrArg Prod.fst h
          subst hkk
          have key : signL ((c :: r).take n ++ q) = n := by
            unfold signL at hn ⊢
            by_cases h2 : isTwo ((c :: r).take 2) = true
            · rw [if_pos h2] at hn
              subst hn
              have hl2 := two_len _ h2
              have : ((c :: r).take 2 ++ q).take 2 = (c :: r).take 2 := by
                rw [List.take_append, hl2, Nat.sub_self, List.take_zero, List.append_nil, List.take_take, Nat.min_self]
              rw [this, if_pos h2]
            · rw [if_neg h2] at hn
              by_cases h1 : isOne ((c :: r).take 1) = true
              · rw [if_pos h1] at hn
                subst hn
                have e1 : ((c :: r).take 1 ++ q).take 1 = (c :: r).take 1 := by simp
                have e2 : isTwo (((c :: r).take 1 ++ q).take 2) = false := by
                  rcases hq with rfl | ⟨d, r', rfl, hd'⟩
                  · rw [Bool.eq_false_iff]; intro h; have := two_len _ h; simp at this
                  · have : ((c :: r).take 1 ++ d :: r').take 2 = [c, d] := by simp
                    rw [this]; exact two_ne c d hd'
                rw [e2, e1, if_pos h1]; simp
              · rw [if_neg h1] at hn
                exact absurd (by unfold signL; rw [if_neg h2, if_neg h1]) hs
          have hpos : 0 < n := by omega
          obtain ⟨m, rfl⟩ : ∃ m, n = m + 1 := ⟨n - 1, by omega⟩
          rw [List.take_succ_cons, List.cons_append] at key ⊢
          simp only [tokL]
          rw [if_neg hl, if_neg hd, key]
          simp
/-- A token's first byte is no blank and no #. -/
theorem tokL_first (c : UInt8) (r : List UInt8) (h : (tokL (c :: r)).1 ≠ 0) : isBl c = false ∧ c ≠ 35 := by
  have key : ∀ d : UInt8, (isBl d = true ∨ d = 35) → isLet d = false ∧ isDig d = false ∧ isOne [d] = false ∧ ∀ b ∈ twoL, b.head? ≠ some d := by
    intro d hd
    have : d = 32 ∨ d = 9 ∨ d = 10 ∨ d = 13 ∨ d = 35 := by
      rcases hd with hd | hd
      · simp only [isBl, Bool.or_eq_true, beq_iff_eq] at hd
        rcases hd with ((h | h) | h) | h
        · exact .inl h
        · exact .inr (.inl h)
        · exact .inr (.inr (.inl h))
        · exact .inr (.inr (.inr (.inl h)))
      · right; right; right; right; exact hd
    rcases this with rfl | rfl | rfl | rfl | rfl <;> decide
  by_cases hc : isBl c = true ∨ c = 35
  · obtain ⟨h1, h2, h3, h4⟩ := key c hc
    exfalso
    apply h
    have hs : signL (c :: r) = 0 := by
      unfold signL
      have e2 : ¬ isTwo ((c :: r).take 2) = true := fun ht => by
        have hm : (c :: r).take 2 ∈ twoL := by simpa [isTwo] using ht
        exact h4 _ hm (by simp)
      rw [if_neg e2]
      have : (c :: r).take 1 = [c] := by simp
      rw [this, h3]; simp
    simp only [tokL]
    rw [if_neg (by rw [h1]; simp), if_neg (by rw [h2]; simp), if_pos hs]
  · constructor
    · rw [Bool.eq_false_iff]; exact fun h => hc (.inl h)
    · exact fun h => hc (.inr h)

end Go.Proofs.YtdeflloidhbpmaaGreatDoor

namespace Go.Proofs.YtdeflloidhbpmaaGreatDoor

/-! ### a comment behind -/
def tailC (c : List UInt8) : List UInt8 := 10 :: 35 :: c
theorem skipL_in (c : List UInt8) (h : ∀ d ∈ c, d ≠ 10) : skipL true c = c.length := by
  induction c with
  | nil => rfl
  | cons d c ih =>
    simp only [skipL]
    rw [if_neg (h d (by simp)), ih (fun e he => h e (by simp [he]))]
    simp
theorem skipL_f (d : UInt8) (r : List UInt8) : skipL false (d :: r) = if isBl d then skipL false r + 1 else if d = 35 then skipL true r + 1 else 0 := rfl
theorem skipL_t (d : UInt8) (r : List UInt8) : skipL true (d :: r) = if d = 10 then skipL false r + 1 else skipL true r + 1 := rfl
theorem skipL_tail (c : List UInt8) (h : ∀ d ∈ c, d ≠ 10) (b : Bool) (r : List UInt8) : (skipL b r < r.length → skipL b (r ++ tailC c) = skipL b r) ∧ (skipL b r = r.length → skipL b (r ++ tailC c) = r.length + (tailC c).length) := by
  induction r generalizing b with
  | nil =>
    have hin := skipL_in c h
    have e1 : skipL false (35 :: c) = c.length + 1 := by
      rw [skipL_f, if_neg (by decide), if_pos rfl, hin]
    refine ⟨fun h => by simp at h, fun _ => ?_⟩
    rw [List.nil_append, tailC]
    cases b
    · rw [skipL_f, if_pos (by decide), e1]; simp
    · rw [skipL_t, if_pos rfl, e1]; simp
  | cons d r ih =>
    have h1 := ih true
    have h2 := ih false
    rw [List.cons_append]
    cases b
    · rw [skipL_f, skipL_f, List.length_cons]
      by_cases hb : isBl d = true
      · rw [if_pos hb, if_pos hb]
        exact ⟨fun h => by rw [h2.1 (by omega)], fun h => by rw [h2.2 (by omega)]; omega⟩
      · rw [if_neg hb, if_neg hb]
        by_cases hh : d = 35
        · rw [if_pos hh, if_pos hh]
          exact ⟨fun h => by rw [h1.1 (by omega)], fun h => by rw [h1.2 (by omega)]; omega⟩
        · rw [if_neg hh, if_neg hh]
          exact ⟨fun _ => rfl, fun h => by omega⟩
    · rw [skipL_t, skipL_t, List.length_cons]
      by_cases hn : d = 10
      · rw [if_pos hn, if_pos hn]
        exact ⟨fun h => by rw [h2.1 (by omega)], fun h => by rw [h2.2 (by omega)]; omega⟩
      · rw [if_neg hn, if_neg hn]
        exact ⟨fun h => by rw [h1.1 (by omega)], fun h => by rw [h1.2 (by omega)]; omega⟩
theorem run_tail (p : UInt8 → Bool) (r q : List UInt8) (hq : run p q = 0) : run p (r ++ q) = run p r := by
  induction r with
  | nil => rw [List.nil_append, hq]; rfl
  | cons c r ih => rw [List.cons_append, run_cons, run_cons, ih]
theorem tokL_tail (r c : List UInt8) (hr : r ≠ []) : tokL (r ++ tailC c) = tokL r := by
  cases r with
  | nil => exact absurd rfl hr
  | cons d r =>
    have ha : run isAl (d :: r ++ tailC c) = run isAl (d :: r) := run_tail isAl _ _ (by simp [tailC, run_cons, isAl_10])
    have hd : run isDig (d :: r ++ tailC c) = run isDig (d :: r) := run_tail isDig _ _ (by simp [tailC, run_cons, show isDig 10 = false from by decide])
    have hla := run_le isAl (d :: r)
    have hld := run_le isDig (d :: r)
    have hta : (d :: r ++ tailC c).take (run isAl (d :: r)) = (d :: r).take (run isAl (d :: r)) := by
      rw [List.take_append, show run isAl (d :: r) - (d :: r).length = 0 from by omega, List.take_zero, List.append_nil]
    have hnb : numBad (d :: r ++ tailC c) (run isDig (d :: r)) = numBad (d :: r) (run isDig (d :: r)) := by
      unfold numBad
      have hh : (d :: r ++ tailC c).head? = (d :: r).head? := by simp
      rw [hh]
      congr 1
      rcases Nat.lt_or_ge (run isDig (d :: r)) (d :: r).length with h | h
      · rw [List.getElem?_append_left h]
      · have e : run isDig (d :: r) = (d :: r).length := by omega
        have e5 : (d :: r)[run isDig (d :: r)]? = none := List.getElem?_eq_none (by omega)
        rw [List.getElem?_append_right h, e5, e, Nat.sub_self]
        rfl
    have hsg : signL (d :: r ++ tailC c) = signL (d :: r) := by
      unfold signL
      have e1 : (d :: r ++ tailC c).take 1 = (d :: r).take 1 := by simp
      cases r with
      | nil =>
        have e2 : isTwo (([d] ++ tailC c).take 2) = false := two_ne d 10 (.inr rfl)
        have e3 : isTwo ([d].take 2) = false := by rw [Bool.eq_false_iff]; intro h; have := two_len _ h; simp at this
        rw [e1, e2, e3]
      | cons e r =>
        have e2 : (d :: e :: r ++ tailC c).take 2 = (d :: e :: r).take 2 := by simp
        rw [e1, e2]
    rw [List.cons_append] at ha hd hta hnb hsg ⊢
    simp only [tokL]
    rw [ha, hd, hta, hnb, hsg]

def endTo (n : Nat) (x : Tok) : Tok := if x.kind = 0 then ⟨0, n, n⟩ else x
theorem toks_tail (t c : List UInt8) (hc : ∀ d ∈ c, d ≠ 10) : ∀ n k, t.length - k = n → k ≤ t.length → (toks t k).2 = none →
    toks (t ++ tailC c) k = ((toks t k).1.map (endTo (t ++ tailC c).length), none) := by
  intro n
  induction n using Nat.strongRecOn with
  | ind n ih =>
    intro k hn hk hnone
    have hle := nextT_le t k hk
    have hlo : skipTo false t k = (nextT t k).lo := rfl
    have hdr : (t ++ tailC c).drop k = t.drop k ++ tailC c := by rw [List.drop_append, show k - t.length = 0 from by omega, List.drop_zero]
    have hsk := skipL_tail c hc false (t.drop k)
    have hlt : (tailC c).length = c.length + 2 := by simp [tailC]
    cases hb : nextBad t k
    · by_cases h0 : (nextT t k).kind = 0
      · have hend := nextT_end t k hk hb h0
        rw [hend] at hlo
        have hs : skipL false (t.drop k) = (t.drop k).length := by
          unfold skipTo at hlo; dsimp only at hlo; rw [List.length_drop]; omega
        have hsk := hsk.2 hs
        have e1 : skipTo false (t ++ tailC c) k = (t ++ tailC c).length := by
          unfold skipTo; rw [hdr, hsk]; simp; omega
        have e2 : nextT (t ++ tailC c) k = ⟨0, (t ++ tailC c).length, (t ++ tailC c).length⟩ := by
          simp only [nextT, e1, List.drop_length, tokL, Nat.add_zero]
        have e3 : nextBad (t ++ tailC c) k = false := by unfold nextBad; rw [e2]; simp
        rw [toks_end t k hb h0, toks_end _ k e3 (by rw [e2]), e2]
        simp [endTo, h0]
      · have hkd := nextT_kind t k h0
        have hs : skipL false (t.drop k) < (t.drop k).length := by
          unfold skipTo at hlo; rw [List.length_drop]; omega
        have hsk := hsk.1 hs
        have e1 : skipTo false (t ++ tailC c) k = skipTo false t k := by
          unfold skipTo; rw [hdr, hsk]
        have e2 : nextT (t ++ tailC c) k = nextT t k := by
          simp only [nextT, e1]
          have e4 : (t ++ tailC c).drop (skipTo false t k) = t.drop (skipTo false t k) ++ tailC c := by
            rw [List.drop_append, show skipTo false t k - t.length = 0 from by omega, List.drop_zero]
          rw [e4, tokL_tail _ c (by intro e; have := congrArg List.length e; simp at this; omega)]
        have e3 : nextBad (t ++ tailC c) k = false := by
          unfold nextBad; rw [e2]
          have : ((nextT t k).hi == (nextT t k).lo) = false := by rw [beq_eq_false_iff_ne]; omega
          rw [this]; rfl
        have hm := toks_more t k hk hb h0
        rw [hm] at hnone
        rw [hm, toks_more _ k (by simp; omega) e3 (by rw [e2]; exact h0), e2, ih (t.length - (nextT t k).hi) (by omega) (nextT t k).hi rfl hle.2.2.1 hnone]
        simp [endTo, h0]
    · rw [toks_bad t k hb] at hnone
      simp at hnone

/-! ### joined by blanks -/
def joinL (l : List (Nat × List UInt8)) : List UInt8 := l.flatMap fun x => x.2 ++ [32]
theorem joinL_cons (x : Nat × List UInt8) (l : List (Nat × List UInt8)) : joinL (x :: l) = x.2 ++ 32 :: joinL l := by simp [joinL]
/-- A kind and bytes that are a token wherever they stand apart. -/
def GoodT (x : Nat × List UInt8) : Prop := x.1 ≠ 0 ∧ ∀ q, Sep q → tokL (x.2 ++ q) = (x.1, x.2.length)
def placeT : Nat → List (Nat × List UInt8) → List Tok
  | p, [] => [⟨0, p, p⟩]
  | p, x :: r => ⟨x.1, p, p + x.2.length⟩ :: placeT (p + x.2.length + 1) r
theorem toks_join (l : List (Nat × List UInt8)) : ∀ (a : List UInt8), (∀ x ∈ l, GoodT x) → toks (a ++ joinL l) a.length = (placeT a.length l, none) := by
  induction l with
  | nil =>
    intro a _
    have e0 : joinL [] = [] := rfl
    rw [e0, List.append_nil]
    have e1 : nextT a a.length = ⟨0, a.length, a.length⟩ := by
      simp only [nextT, skipTo_end false a a.length (Nat.le_refl _), List.drop_length, tokL, Nat.add_zero]
    have e2 : nextBad a a.length = false := by unfold nextBad; rw [e1]; simp
    rw [toks_end a a.length e2 (by rw [e1]), e1]
    rfl
  | cons x r ih =>
    intro a hg
    obtain ⟨hk, hx⟩ := hg x (by simp)
    have hsep : Sep (32 :: joinL r) := .inr ⟨32, _, rfl, .inl rfl⟩
    have htk := hx _ hsep
    have hz := tokL_zero (x.2 ++ 32 :: joinL r)
    rw [htk] at hz
    dsimp only at hz
    have hpos : 0 < x.2.length := by
      have : x.2.length ≠ 0 := fun e => hk (hz.2 e)
      omega
    obtain ⟨xk, xb⟩ := x
    cases xb with
    | nil => simp at hpos
    | cons c cs =>
      dsimp only at hk hx htk hpos ⊢
      have hf := tokL_first c (cs ++ 32 :: joinL r) (by rw [← List.cons_append, htk]; exact hk)
      rw [joinL_cons]
      dsimp only
      have hd : (a ++ (c :: cs ++ 32 :: joinL r)).drop a.length = c :: cs ++ 32 :: joinL r := List.drop_left
      have hs0 : skipL false (c :: cs ++ 32 :: joinL r) = 0 := by
        rw [List.cons_append]
        simp only [skipL]
        rw [if_neg (by rw [hf.1]; simp), if_neg hf.2]
      have e0 : skipTo false (a ++ (c :: cs ++ 32 :: joinL r)) a.length = a.length := by
        unfold skipTo; rw [hd, hs0, Nat.add_zero]
      have e1 : nextT (a ++ (c :: cs ++ 32 :: joinL r)) a.length = ⟨xk, a.length, a.length + (c :: cs).length⟩ := by
        simp only [nextT, e0, hd, htk]
      have e2 : nextBad (a ++ (c :: cs ++ 32 :: joinL r)) a.length = false := by
        unfold nextBad; rw [e1]
        have : (a.length + (c :: cs).length == a.length) = false := by rw [beq_eq_false_iff_ne]; omega
        dsimp only
        rw [this]; rfl
      rw [toks_more _ a.length (by simp) e2 (by rw [e1]; exact hk), e1]
      dsimp only
      have hlen : (a ++ (c :: cs ++ 32 :: joinL r)).length = a.length + (c :: cs).length + 1 + (joinL r).length := by
        simp only [List.length_append, List.length_cons]; omega
      have hget : (a ++ (c :: cs ++ 32 :: joinL r))[a.length + (c :: cs).length]'(by omega) = 32 := by
        rw [List.getElem_append_right (by omega)]
        simp
      have hfrom := toks_from (a ++ (c :: cs ++ 32 :: joinL r)) (a.length + (c :: cs).length) (a.length + (c :: cs).length + 1) (by omega) (by omega)
        (skipTo_blank _ _ (by omega) (by rw [hget]; decide)).symm
      have hih := ih (a ++ (c :: cs) ++ [32]) (fun y hy => hg y (by simp [hy]))
      have ha : a ++ (c :: cs) ++ [32] ++ joinL r = a ++ (c :: cs ++ 32 :: joinL r) := by simp
      have hal : (a ++ (c :: cs) ++ [32]).length = a.length + (c :: cs).length + 1 := by simp only [List.length_append, List.length_cons, List.length_nil]
      rw [ha, hal] at hih
      rw [hfrom, hih]
      rfl
theorem placeT_len (l : List (Nat × List UInt8)) : ∀ p, (placeT p l).length = l.length + 1 := by
  induction l with
  | nil => intro p; rfl
  | cons x r ih => intro p; simp [placeT, ih]
theorem placeT_get (l : List (Nat × List UInt8)) : ∀ (a : List UInt8) (i : Nat) (h : i < l.length), ∃ q, (placeT a.length l)[i]? = some ⟨(l[i]).1, q, q + (l[i]).2.length⟩ ∧ ((a ++ joinL l).drop q).take (l[i]).2.length = (l[i]).2 ∧ q + (l[i]).2.length ≤ (a ++ joinL l).length := by
  induction l with
  | nil => intro a i h; simp at h
  | cons x r ih =>
    intro a i h
    cases i with
    | zero =>
      refine ⟨a.length, by simp [placeT], ?_, ?_⟩
      · rw [List.drop_left, joinL_cons]; simp
      · rw [joinL_cons]; simp
    | succ i =>
      obtain ⟨q, h1, h2, h3⟩ := ih (a ++ x.2 ++ [32]) i (by simpa using h)
      have ha : a ++ x.2 ++ [32] ++ joinL r = a ++ joinL (x :: r) := by rw [joinL_cons]; simp
      have hal : (a ++ x.2 ++ [32]).length = a.length + x.2.length + 1 := by simp; omega
      rw [ha] at h2 h3
      rw [hal] at h1
      exact ⟨q, by simpa [placeT] using h1, by simpa using h2, by simpa using h3⟩
theorem placeT_end (l : List (Nat × List UInt8)) : ∀ (a : List UInt8), (placeT a.length l)[l.length]? = some ⟨0, (a ++ joinL l).length, (a ++ joinL l).length⟩ := by
  induction l with
  | nil => intro a; simp [placeT, joinL]
  | cons x r ih =>
    intro a
    have h := ih (a ++ x.2 ++ [32])
    have ha : a ++ x.2 ++ [32] ++ joinL r = a ++ joinL (x :: r) := by rw [joinL_cons]; simp
    have hal : (a ++ x.2 ++ [32]).length = a.length + x.2.length + 1 := by simp; omega
    rw [ha, hal] at h
    simpa [placeT] using h

/-- A token's bytes. -/
def bytesOf (t : List UInt8) (x : Tok) : List UInt8 := (t.drop x.lo).take (x.hi - x.lo)
/-- Texts with one blank between them. -/
def sJoin (ws : List (List UInt8)) : List UInt8 := match ws with | [] => [] | w :: r => w ++ r.flatMap fun v => 32 :: v
theorem sJoin_snoc (ws : List (List UInt8)) (w : List UInt8) : sJoin (ws ++ [w]) = if ws.length = 0 then w else sJoin ws ++ 32 :: w := by
  cases ws with
  | nil => simp [sJoin]
  | cons v r => simp [sJoin]
theorem blanks_turn (r : List (Nat × List UInt8)) : (r.flatMap fun v => 32 :: v.2) ++ [32] = 32 :: joinL r := by
  induction r with
  | nil => rfl
  | cons x r ih =>
    rw [List.flatMap_cons, List.append_assoc, ih, joinL_cons]
    simp
theorem sJoin_join (l : List (Nat × List UInt8)) : sJoin (l.map (·.2) ++ [[]]) = joinL l := by
  cases l with
  | nil => simp [sJoin, joinL]
  | cons x r =>
    rw [joinL_cons]
    have := blanks_turn r
    simp only [sJoin, List.map_cons, List.cons_append, List.flatMap_append, List.flatMap_map]
    rw [show ([[]] : List (List UInt8)).flatMap (fun v => 32 :: v) = [32] from rfl, this]
theorem toks_sum (t : List UInt8) : ∀ n k, t.length - k = n → k ≤ t.length → (((toks t k).1).map fun x => x.hi - x.lo).sum + k ≤ t.length := by
  intro n
  induction n using Nat.strongRecOn with
  | ind n ih =>
    intro k hn hk
    have hle := nextT_le t k hk
    cases hb : nextBad t k
    · by_cases h0 : (nextT t k).kind = 0
      · rw [toks_end t k hb h0]; simp; omega
      · have hkd := nextT_kind t k h0
        rw [toks_more t k hk hb h0]
        have := ih (t.length - (nextT t k).hi) (by omega) (nextT t k).hi rfl hle.2.2.1
        simp; omega
    · rw [toks_bad t k hb]; simpa using hk

/-- All that the joined text's tokens are. -/
theorem joined (t : List UInt8) (l : List Tok) (h : toks t 0 = (l, none)) :
    ∃ m, toks (sJoin (l.map (bytesOf t))) 0 = (m, none) ∧ m.length = l.length ∧ ∀ i (hi : i < l.length) (hm : i < m.length), (m[i]).kind = (l[i]).kind ∧ bytesOf (sJoin (l.map (bytesOf t))) m[i] = bytesOf t l[i] ∧ (m[i]).lo ≤ (m[i]).hi ∧ (m[i]).hi ≤ (sJoin (l.map (bytesOf t))).length := by
  have hall : ∀ i (hi : i < l.length), ∃ k, GoI t l i k := by
    intro i
    induction i with
    | zero => intro hi; exact ⟨0, goI_start t l h⟩
    | succ i ih =>
      intro hi
      obtain ⟨k, hk⟩ := ih (by omega)
      exact ⟨_, (goI_step t l i k hk (by omega)).2.2.2.2.2.2.2.2.2.2.2⟩
  have hne : l ≠ [] := by have := toks_ne t 0 (Nat.zero_le _) (by rw [h]); rwa [h] at this
  obtain ⟨l0, z, rfl⟩ : ∃ l0 z, l = l0 ++ [z] := ⟨l.dropLast, l.getLast hne, (List.dropLast_concat_getLast hne).symm⟩
  have hz : z = ⟨0, t.length, t.length⟩ := by
    obtain ⟨k, hk⟩ := hall l0.length (by simp)
    have hs := goI_step t _ _ k hk (by simp)
    have e : (l0 ++ [z])[l0.length]'(by simp) = z := by simp
    rw [e] at hs
    exact hs.2.2.2.2.2.2.2.2.2.1 (hs.2.2.2.2.2.2.1.2 (by simp))
  have hbz : bytesOf t z = [] := by rw [hz]; simp [bytesOf]
  let items := l0.map fun x => (x.kind, bytesOf t x)
  have hw : (l0 ++ [z]).map (bytesOf t) = items.map (·.2) ++ [[]] := by
    simp [items, hbz, Function.comp_def]
  have hgood : ∀ x ∈ items, GoodT x := by
    intro x hx
    obtain ⟨y, hy, rfl⟩ := List.mem_map.1 hx
    obtain ⟨i, hi, rfl⟩ := List.mem_iff_getElem.1 hy
    obtain ⟨k, hk⟩ := hall i (by simp; omega)
    have hs := goI_step t _ _ k hk (by simp; omega)
    have e : (l0 ++ [z])[i]'(by simp; omega) = l0[i] := List.getElem_append_left hi
    rw [e] at hs
    have hk0 : (l0[i]).kind ≠ 0 := fun e0 => by
      have := hs.2.2.2.2.2.2.1.1 e0
      simp at this; omega
    have htk := hs.2.2.2.2.2.2.2.2.1 hk0
    refine ⟨hk0, fun q hq => ?_⟩
    have hl := tokL_le (t.drop (l0[i]).lo)
    rw [htk] at hl
    dsimp only at hl ⊢
    have hlen : (bytesOf t l0[i]).length = (l0[i]).hi - (l0[i]).lo := by unfold bytesOf; rw [List.length_take]; omega
    rw [hlen]
    exact tokL_sep _ q _ _ htk hk0 hq
  rw [hw, sJoin_join]
  have hj := toks_join items [] hgood
  rw [List.nil_append, List.length_nil] at hj
  refine ⟨_, hj, ?_, ?_⟩
  · rw [placeT_len]; simp [items]
  · intro i hi hm
    have hil : items.length = l0.length := by simp [items]
    by_cases hlt : i < l0.length
    · obtain ⟨q, h1, h2, h3⟩ := placeT_get items [] i (by omega)
      rw [List.length_nil] at h1
      rw [List.nil_append] at h2 h3
      have e : (placeT 0 items)[i] = ⟨(items[i]).1, q, q + (items[i]).2.length⟩ := Option.some.inj ((List.getElem?_eq_getElem hm).symm.trans h1)
      have e2 : (l0 ++ [z])[i]'hi = l0[i] := List.getElem_append_left hlt
      have e3 : items[i]'(by omega) = (l0[i].kind, bytesOf t l0[i]) := by simp [items]
      rw [e, e2]
      rw [e3] at h2 h3 ⊢
      dsimp only at h2 h3 ⊢
      refine ⟨rfl, ?_, by omega, h3⟩
      unfold bytesOf at h2 ⊢
      dsimp only
      rw [Nat.add_sub_cancel_left]
      exact h2
    · have hie : i = items.length := by simp at hi; omega
      subst hie
      have h1 := placeT_end items []
      rw [List.length_nil, List.nil_append] at h1
      have e : (placeT 0 items)[items.length] = ⟨0, (joinL items).length, (joinL items).length⟩ := Option.some.inj ((List.getElem?_eq_getElem hm).symm.trans h1)
      have e2 : (l0 ++ [z])[items.length]'hi = z := by simp [items]
      rw [e, e2, hbz, hz]
      refine ⟨rfl, by simp [bytesOf], Nat.le_refl _, Nat.le_refl _⟩

end Go.Proofs.YtdeflloidhbpmaaGreatDoor

namespace Go.Proofs.YtdeflloidhbpmaaGreatDoor

theorem tok_num (r : List UInt8) (h : (tokL r).1 = 2) : (tokL r).2 ≤ 18 ∧ ∀ c ∈ r.take (tokL r).2, isDig c = true := by
  cases r with
  | nil => simp [tokL] at h
  | cons c r =>
    simp only [tokL] at h ⊢
    by_cases h1 : isLet c = true
    · rw [if_pos h1] at h
      simp only [nameK] at h
      split at h <;> simp at h
    · rw [if_neg h1] at h ⊢
      by_cases h2 : isDig c = true
      · rw [if_pos h2] at h ⊢
        by_cases h3 : numBad (c :: r) (run isDig (c :: r)) = true
        · rw [if_pos h3] at h; simp at h
        · rw [if_neg h3]
          refine ⟨?_, run_take isDig (c :: r)⟩
          simp only [numBad, Bool.or_eq_true, decide_eq_true_eq, not_or] at h3
          omega
      · rw [if_neg h2] at h
        split at h <;> simp at h
/-- The tokens of a text that has such: at the end the End alone. -/
def Inner (t : List UInt8) (k : Nat) (x : Tok) : Prop := x.kind ≠ 0 ∧ x.lo < x.hi ∧ x.hi ≤ t.length ∧ k ≤ x.lo ∧ (x.kind = 2 → x.hi - x.lo ≤ 18 ∧ ∀ c ∈ bytesOf t x, isDig c = true)
theorem toksF_tk (t : List UInt8) : ∀ n k, t.length - k < n → k ≤ t.length → (toksF n t k).2 = none → ∃ pre, (toksF n t k).1 = pre ++ [⟨0, t.length, t.length⟩] ∧ ∀ x ∈ pre, Inner t k x := by
  intro n
  induction n with
  | zero => intro k h; omega
  | succ n ih =>
    intro k hn hk hb
    simp only [toksF] at hb ⊢
    by_cases h1 : nextBad t k = true
    · rw [if_pos h1] at hb; simp at hb
    · rw [if_neg h1] at hb ⊢
      by_cases h0 : (nextT t k).kind = 0
      · rw [if_pos h0] at hb ⊢
        exact ⟨[], by rw [nextT_end t k hk (by simpa using h1) h0]; rfl, by simp⟩
      · rw [if_neg h0] at hb ⊢
        have hle := nextT_le t k hk
        have hlt := nextT_kind t k h0
        obtain ⟨pre, hp, hq⟩ := ih (nextT t k).hi (by omega) (by omega) hb
        refine ⟨nextT t k :: pre, by rw [hp]; rfl, fun x hx => ?_⟩
        rcases List.mem_cons.1 hx with rfl | hx
        · refine ⟨h0, hlt, by omega, by omega, fun h2 => ?_⟩
          have h3 := tok_num (t.drop (skipTo false t k)) h2
          simp only [nextT, bytesOf]
          rw [Nat.add_sub_cancel_left]
          exact h3
        · obtain ⟨a1, a2, a3, a4, a5⟩ := hq x hx
          exact ⟨a1, a2, a3, by omega, a5⟩
theorem toks_tk (t : List UInt8) (h : (toks t 0).2 = none) : ∃ pre, (toks t 0).1 = pre ++ [⟨0, t.length, t.length⟩] ∧ ∀ x ∈ pre, Inner t 0 x := toksF_tk t _ 0 (by omega) (by omega) h

def tkOf (t : List UInt8) (x : Tok) : Tk := ⟨x.kind, x.lo, x.hi, bytesOf t x⟩
def tksL (t : List UInt8) : List Tk := (toks t 0).1.map (tkOf t)
theorem tksL_ok (t : List UInt8) (h : (toks t 0).2 = none) : TkOk (tksL t) := by
  obtain ⟨pre, hp, hq⟩ := toks_tk t h
  unfold tksL
  rw [hp]
  constructor
  · simp
  · intro i hi hne
    simp only [List.length_map, List.length_append, List.length_singleton] at hi ⊢
    rcases Nat.lt_or_ge i pre.length with hlt | hge
    · omega
    · exfalso
      have hie : i = pre.length := by omega
      subst hie
      simp [tkOf, bytesOf] at hne
  · intro i hi h2
    simp only [List.length_map, List.length_append, List.length_singleton] at hi
    rcases Nat.lt_or_ge i pre.length with hlt | hge
    · have hx : pre[i] ∈ pre := List.getElem_mem hlt
      obtain ⟨a1, a2, a3, a4, a5⟩ := hq _ hx
      have e : ((pre ++ [(⟨0, t.length, t.length⟩ : Tok)]).map (tkOf t))[i]'(by simp; omega) = tkOf t pre[i] := by
        rw [List.getElem_map, List.getElem_append_left hlt]
      rw [e] at h2 ⊢
      obtain ⟨b1, b2⟩ := a5 h2
      have hl : (bytesOf t pre[i]).length = pre[i].hi - pre[i].lo := by simp [bytesOf]; omega
      refine ⟨fun e => ?_, ?_, fun c hc => ?_⟩
      · simp only [tkOf] at e
        rw [e] at hl; simp at hl; omega
      · simp only [tkOf]; omega
      · have := b2 c hc
        simp only [isDig, Bool.and_eq_true, decide_eq_true_eq] at this
        have h1 := UInt8.le_iff_toNat_le.1 this.1
        have h3 := UInt8.le_iff_toNat_le.1 this.2
        exact ⟨h1, h3⟩
    · exfalso
      have hie : i = pre.length := by omega
      subst hie
      simp [tkOf] at h2
/-- Where something is wrong, and what; or what was put. -/
inductive Res0 where
  | bad : Nat → Nat → Res0
  | good : Sg → Res0
def loOf (T : List Tk) (i : Nat) : Nat := (T.getD i ⟨0, 0, 0, []⟩).lo
def parseT (t : List UInt8) : Res0 := match (toks t 0).2 with
  | some p => .bad p 2
  | none => match programM (tksL t) start with
    | .ok _ s => .good s
    | .no c i => .bad (loOf (tksL t) i) c

theorem toksF_len' (t : List UInt8) : ∀ n k, k ≤ t.length → (toksF n t k).1.length + k ≤ t.length + 1 := by
  intro n
  induction n with
  | zero => intro k hk; simp [toksF]; omega
  | succ n ih =>
    intro k hk
    rw [toksF]
    split
    · simp; omega
    · split
      · simp; omega
      · rename_i h0
        have h1 := nextT_le t k hk
        have h2 := nextT_kind t k h0
        have := ih (nextT t k).hi (by omega)
        simp; omega
theorem toks_len' (t : List UInt8) : (toks t 0).1.length ≤ t.length + 1 := by
  have := toksF_len' t (t.length - 0 + 1) 0 (Nat.zero_le _)
  unfold toks
  omega

end Go.Proofs.YtdeflloidhbpmaaGreatDoor

namespace Go.Proofs.YtdeflloidhbpmaaGreatDoor

def hasP (r b : List UInt8) : Bool := r.take b.length == b
theorem sgn_len (j : Nat) (hj : j < 23) : (signsL.getD j []).length = if j < 6 then 2 else 1 := by
  have : ∀ j : Fin 23, (signsL.getD j.1 []).length = if j.1 < 6 then 2 else 1 := by decide
  exact this ⟨j, hj⟩
theorem sgn_two (j : Nat) (hj : j < 6) : signsL.getD j [] ∈ twoL := by
  have : ∀ j : Fin 6, signsL.getD j.1 [] ∈ twoL := by decide
  exact this ⟨j, hj⟩
theorem sgn_one (j : Nat) (h6 : 6 ≤ j) (hj : j < 23) : signsL.getD j [] ∈ oneL := by
  have : ∀ j : Fin 23, 6 ≤ j.1 → signsL.getD j.1 [] ∈ oneL := by decide
  exact this ⟨j, hj⟩ h6
theorem two_sgn : ∀ b ∈ twoL, ∃ j : Fin 6, signsL.getD j.1 [] = b := by decide
theorem one_sgn : ∀ b ∈ oneL, ∃ j : Fin 23, 6 ≤ j.1 ∧ signsL.getD j.1 [] = b := by decide

theorem sign_first (r : List UInt8) (i : Nat) (hi : i < 23) (hn : ∀ j, j < i → hasP r (signsL.getD j []) = false) (h : hasP r (signsL.getD i []) = true) : signL r = (signsL.getD i []).length := by
  have hl := sgn_len i hi
  unfold hasP at h
  rw [hl] at h ⊢
  rw [beq_iff_eq] at h
  unfold signL
  by_cases h6 : i < 6
  · rw [if_pos h6] at h ⊢
    have : isTwo (r.take 2) = true := by rw [h]; simpa [isTwo] using sgn_two i h6
    rw [if_pos this]
  · rw [if_neg h6] at h ⊢
    have h2 : ¬ isTwo (r.take 2) = true := fun hc => by
      have hm : r.take 2 ∈ twoL := by simpa [isTwo] using hc
      obtain ⟨j, hj⟩ := two_sgn _ hm
      have := hn j.1 (by omega)
      unfold hasP at this
      rw [sgn_len j.1 (by omega), if_pos j.2, hj] at this
      simp at this
    have h1 : isOne (r.take 1) = true := by rw [h]; simpa [isOne] using sgn_one i (by omega) hi
    rw [if_neg h2, if_pos h1]
theorem sign_none (r : List UInt8) (hn : ∀ j, j < 23 → hasP r (signsL.getD j []) = false) : signL r = 0 := by
  unfold signL
  have h2 : ¬ isTwo (r.take 2) = true := fun hc => by
    have hm : r.take 2 ∈ twoL := by simpa [isTwo] using hc
    obtain ⟨j, hj⟩ := two_sgn _ hm
    have := hn j.1 (by omega)
    unfold hasP at this
    rw [sgn_len j.1 (by omega), if_pos j.2, hj] at this
    simp at this
  have h1 : ¬ isOne (r.take 1) = true := fun hc => by
    have hm : r.take 1 ∈ oneL := by simpa [isOne] using hc
    obtain ⟨j, h6, hj⟩ := one_sgn _ hm
    have := hn j.1 (by omega)
    unfold hasP at this
    rw [sgn_len j.1 (by omega), if_neg (by omega), hj] at this
    simp at this
  rw [if_neg h2, if_neg h1]

end Go.Proofs.YtdeflloidhbpmaaGreatDoor

namespace Go.Proofs.YtdeflloidhbpmaaGreatDoor
open Go.RowKit

theorem hasP_eq (s p : ByteArray) (_h : p.size ≤ s.size) : ((s.extract 0 p.size).toList == p.toList) = hasP s.data.toList p.data.toList := by
  unfold hasP
  rw [ByteArray.toList_eq, ByteArray.toList_eq]
  have : (s.extract 0 p.size).data.toList = s.data.toList.take p.data.toList.length := by
    rw [sizeL]; simp
  rw [this]
theorem hasP_short (s p : ByteArray) (h : s.size < p.size) : hasP s.data.toList p.data.toList = false := by
  unfold hasP
  rw [beq_eq_false_iff_ne]
  intro e
  have := congrArg List.length e
  rw [List.length_take, sizeL, sizeL] at this
  omega

set_option maxRecDepth 100000 in
set_option maxHeartbeats 400000 in
theorem hasPrefix0 (s p : ByteArray) (_hs : s.size ≤ 100000) (w : World) : Calls Tryz.prog 138 #[.string s, .string p] w fun e w' => e = .returned (.bool (hasP s.data.toList p.data.toList)) ∧ w = w' := by
  by_cases h : p.size ≤ s.size
  · have he := hasP_eq s p h
    have hle : decide ((p.size : Int) ≤ (s.size : Int)) = true := by simp; omega
    have hle2 : (p.size : Int) ≤ (s.size : Int) := by omega
    cases hp : hasP s.data.toList p.data.toList
    all_goals
      rw [hp] at he
      clear hp
      go_enter Tryz.func138, Tryz.ntmps138
      go_wp2
      go_ret
      exact ⟨rfl, rfl⟩
  · have he := Lib.hid (hasP_short s p (by omega))
    have hle : decide ((p.size : Int) ≤ (s.size : Int)) = false := by simp; omega
    go_enter Tryz.func138, Tryz.ntmps138
    go_wp2
    go_ret
    exact ⟨ret_bool he.out.symm, rfl⟩
theorem hasPrefix_calls (s p : ByteArray) (hs : s.size ≤ 100000) (w : World) : Calls Tryz.prog 121 #[.string s, .string p] w fun e w' => e = .returned (.bool (hasP s.data.toList p.data.toList)) ∧ w = w' := by
  have h := Lib.hid (fun w => hasPrefix0 s p hs w)
  go_enter Tryz.func121, Tryz.ntmps121
  go_wp2_with fail
  refine (h.out _).mono ?_
  rintro e w' ⟨rfl, rfl⟩
  go_wp2
  go_ret
  exact ⟨rfl, rfl⟩

theorem Tryz.info_signs : (Tryz.prog.info? 169).map (·.size) = some signsV.toList.length := by kernel_rfl
theorem Tabs.range_signs {w : World} (h : Tabs w) : w.rangeAt 1 0 signsV.toList := fun j v hv => by
  have hj : j < 23 := by
    have := (List.getElem?_eq_some_iff.1 hv).1
    exact this
  have h1 := signsV_get j hj
  rw [Array.getElem?_toList, h1] at hv
  rw [Nat.zero_add, h.2.1 j hj, hv]

def signKL (r : List UInt8) : Nat := if signL r = 0 then 0 else 4
theorem drop_eq (s : ByteArray) (k : Nat) : (s.extract k s.size).data.toList = s.data.toList.drop k := by
  rw [ByteArray.data_extract, Array.toList_extract, List.extract_eq_take_drop]
  apply List.take_of_length_le
  rw [List.length_drop, sizeL]
  omega
theorem ret_two {k l : IntKind} {a b c d : Int} (h : a = b) (h2 : c = d) : Ending.returned (.tuple #[.int k a, .int l c]) = .returned (.tuple #[.int k b, .int l d]) := by rw [h, h2]

set_option maxRecDepth 100000 in
set_option maxHeartbeats 1000000 in
theorem signAt_calls (s : ByteArray) (hs : s.size ≤ 100000) (k : Nat) (hk : k ≤ s.size) (w : World) (hw : Tabs w) :
    Calls Tryz.prog 99 #[.string s, .int .i64 (k : Int)] w fun e w' => e = .returned (.tuple #[.int .i64 (signKL (s.data.toList.drop k) : Nat), .int .i64 ((k + signL (s.data.toList.drop k) : Nat) : Int)]) ∧ w = w' := by
  have hr := Lib.hid hw.range_signs
  clear hw
  go_enter Tryz.func99, Tryz.ntmps99
  go_wp2_with (with_reducible refine wpList_load_mid rfl 169 (.global 1) rfl 1 0 rfl signsV.toList _ hr.out Tryz.underlying169 rfl Tryz.info_signs ?_)
  go_loop [9] (fun a => ∃ i : Nat, i ≤ 23 ∧ a = .int .i64 i ∧ Hid (∀ j, j < i → hasP (s.data.toList.drop k) (signsL.getD j []) = false)) (fun a => 23 - (intOf a).toNat)
  case atStart => exact ⟨0, by omega, rfl, Lib.hid (fun j hj => by omega)⟩
  case round =>
    obtain ⟨i, hi, rfl, HN⟩ := hrel
    by_cases hlt : i < 23
    · have hix := signs_index w i hlt
      have hcall := Lib.hid (fun w => hasPrefix_calls (s.extract k s.size) (signB i) (by simp; omega) w)
      have hk' : (k : Int) ≤ (s.size : Int) := by omega
      have hz : (signB i).size ≤ 2 := by
        unfold signB; rw [bs_size, sgn_len i hlt]; split <;> omega
      rw [drop_eq, show (signB i).data.toList = signsL.getD i [] from bs_toList _] at hcall
      cases hp : hasP (s.data.toList.drop k) (signsL.getD i [])
      · rw [hp] at hcall
        have HE := Lib.hid hp
        clear hp
        go_wp2_with (go_at_call 121; refine (hcall.out _).mono ?_; rintro e w' ⟨rfl, rfl⟩)
        go_round
        case rel => exact ⟨i + 1, by omega, by go_num, Lib.hid (fun j hj => by
          by_cases h : j = i
          · subst h; exact HE.out
          · exact HN.out j (by omega))⟩
        case measure => simp [intOf]; omega
      · rw [hp] at hcall
        have HE := Lib.hid (sign_first _ i hlt HN.out hp)
        have HZ := Lib.hid (show (signB i).size = (signsL.getD i []).length from bs_size _)
        have HP : Hid (0 < (signsL.getD i []).length) := Lib.hid (by rw [sgn_len i hlt]; split <;> omega)
        clear hp
        go_wp2_with (go_at_call 121; refine (hcall.out _).mono ?_; rintro e w' ⟨rfl, rfl⟩)
        go_ret2
        have h1 := HE.out
        have h2 := HZ.out
        have h3 := HP.out
        exact ⟨ret_two (by unfold signKL; rw [if_neg (by omega)]; rfl) (by omega), rfl⟩
    · obtain rfl : i = 23 := by omega
      have HE := Lib.hid (sign_none _ HN.out)
      go_wp2
      go_ret2
      have h1 := HE.out
      exact ⟨ret_two (by unfold signKL; rw [if_pos h1]; rfl) (by omega), rfl⟩

end Go.Proofs.YtdeflloidhbpmaaGreatDoor
