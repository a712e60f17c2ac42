/-
  Plain facts on tokens: a text, a line end, and another text behind.
-/
import Derived.Test.YtccmodefjgjpeaaGreatDoorPTok
namespace Go.Proofs.YtccmodefjgjpeaaGreatDoor

theorem skipL_nl (q : List UInt8) (b : Bool) (r : List UInt8) : (skipL b r < r.length → skipL b (r ++ 10 :: q) = skipL b r) ∧ (skipL b r = r.length → skipL b (r ++ 10 :: q) = r.length + (1 + skipL false q)) := by
  induction r generalizing b with
  | nil =>
    refine ⟨fun h => by simp at h, fun _ => ?_⟩
    rw [List.nil_append]
    cases b
    · rw [skipL_f, if_pos (by decide)]; simp; omega
    · rw [skipL_t, if_pos rfl]; simp; omega
  | cons d r ih =>
    have h1 := ih true
    have h2 := ih false
    rw [List.cons_append]
    cases b
    · rw [skipL_f, skipL_f, List.length_cons]
      by_cases hb : isBl d = true
      · rw [if_pos hb, if_pos hb]
        exact ⟨fun h => by rw [h2.1 (by omega)], fun h => by rw [h2.2 (by omega)]; omega⟩
      · rw [if_neg hb, if_neg hb]
        by_cases hh : d = 35
        · rw [if_pos hh, if_pos hh]
          exact ⟨fun h => by rw [h1.1 (by omega)], fun h => by rw [h1.2 (by omega)]; omega⟩
        · rw [if_neg hh, if_neg hh]
          exact ⟨fun _ => rfl, fun h => by omega⟩
    · rw [skipL_t, skipL_t, List.length_cons]
      by_cases hn : d = 10
      · rw [if_pos hn, if_pos hn]
        exact ⟨fun h => by rw [h2.1 (by omega)], fun h => by rw [h2.2 (by omega)]; omega⟩
      · rw [if_neg hn, if_neg hn]
        exact ⟨fun h => by rw [h1.1 (by omega)], fun h => by rw [h1.2 (by omega)]; omega⟩
theorem tokL_nl (r q : List UInt8) (hr : r ≠ []) : tokL (r ++ 10 :: q) = tokL r := by
  cases r with
  | nil => exact absurd rfl hr
  | cons d r =>
    have ha : run isAl (d :: r ++ 10 :: q) = run isAl (d :: r) := run_tail isAl _ _ (by simp [run_cons, isAl_10])
    have hd : run isDig (d :: r ++ 10 :: q) = run isDig (d :: r) := run_tail isDig _ _ (by simp [run_cons, show isDig 10 = false from by decide])
    have hla := run_le isAl (d :: r)
    have hld := run_le isDig (d :: r)
    have hta : (d :: r ++ 10 :: q).take (run isAl (d :: r)) = (d :: r).take (run isAl (d :: r)) := by
      rw [List.take_append, show run isAl (d :: r) - (d :: r).length = 0 from by omega, List.take_zero, List.append_nil]
    have hnb : numBad (d :: r ++ 10 :: q) (run isDig (d :: r)) = numBad (d :: r) (run isDig (d :: r)) := by
      unfold numBad
      have hh : (d :: r ++ 10 :: q).head? = (d :: r).head? := by simp
      rw [hh]
      congr 1
      rcases Nat.lt_or_ge (run isDig (d :: r)) (d :: r).length with h | h
      · rw [List.getElem?_append_left h]
      · have e : run isDig (d :: r) = (d :: r).length := by omega
        have e5 : (d :: r)[run isDig (d :: r)]? = none := List.getElem?_eq_none (by omega)
        rw [List.getElem?_append_right h, e5, e, Nat.sub_self]
        rfl
    have hsg : signL (d :: r ++ 10 :: q) = signL (d :: r) := by
      unfold signL
      have e1 : (d :: r ++ 10 :: q).take 1 = (d :: r).take 1 := by simp
      cases r with
      | nil =>
        have e2 : isTwo (([d] ++ 10 :: q).take 2) = false := two_ne d 10 (.inr rfl)
        have e3 : isTwo ([d].take 2) = false := by rw [Bool.eq_false_iff]; intro h; have := two_len _ h; simp at this
        rw [e1, e2, e3]
      | cons e r =>
        have e2 : (d :: e :: r ++ 10 :: q).take 2 = (d :: e :: r).take 2 := by simp
        rw [e1, e2]
    rw [List.cons_append] at ha hd hta hnb hsg ⊢
    simp only [tokL]
    rw [ha, hd, hta, hnb, hsg]
/-- A text's tokens but for the End, and then those behind the line end. -/
theorem toks_nl (t q : List UInt8) : ∀ n k, t.length - k = n → k ≤ t.length → (toks t k).2 = none → ∃ pre, (toks t k).1 = pre ++ [⟨0, t.length, t.length⟩] ∧ toks (t ++ 10 :: q) k = (pre ++ (toks (t ++ 10 :: q) (t.length + 1)).1, (toks (t ++ 10 :: q) (t.length + 1)).2) := by
  intro n
  induction n using Nat.strongRecOn with
  | ind n ih =>
    intro k hn hk hnone
    have hle := nextT_le t k hk
    have hlo : skipTo false t k = (nextT t k).lo := rfl
    have hdr : (t ++ 10 :: q).drop k = t.drop k ++ 10 :: q := by rw [List.drop_append, show k - t.length = 0 from by omega, List.drop_zero]
    have hsk := skipL_nl q false (t.drop k)
    cases hb : nextBad t k
    · by_cases h0 : (nextT t k).kind = 0
      · have hend := nextT_end t k hk hb h0
        rw [hend] at hlo
        have hs : skipL false (t.drop k) = (t.drop k).length := by
          unfold skipTo at hlo; dsimp only at hlo; rw [List.length_drop]; omega
        have hsk := hsk.2 hs
        have hd2 : (t ++ 10 :: q).drop (t.length + 1) = q := by
          rw [List.drop_append, List.drop_eq_nil_of_le (by omega), show t.length + 1 - t.length = 1 by omega]; rfl
        have e1 : toks (t ++ 10 :: q) k = toks (t ++ 10 :: q) (t.length + 1) := by
          refine toks_from _ _ _ (by simp; omega) (by simp) ?_
          unfold skipTo
          rw [hdr, hsk, hd2, List.length_drop]
          omega
        refine ⟨[], ?_, ?_⟩
        · rw [toks_end t k hb h0, hend]; rfl
        · rw [e1]; rfl
      · have hkd := nextT_kind t k h0
        have hs : skipL false (t.drop k) < (t.drop k).length := by
          unfold skipTo at hlo; rw [List.length_drop]; omega
        have hsk := hsk.1 hs
        have e1 : skipTo false (t ++ 10 :: q) k = skipTo false t k := by
          unfold skipTo; rw [hdr, hsk]
        have e2 : nextT (t ++ 10 :: q) k = nextT t k := by
          simp only [nextT, e1]
          have e4 : (t ++ 10 :: q).drop (skipTo false t k) = t.drop (skipTo false t k) ++ 10 :: q := by
            rw [List.drop_append, show skipTo false t k - t.length = 0 from by omega, List.drop_zero]
          rw [e4, tokL_nl _ q (by intro e; have := congrArg List.length e; simp at this; omega)]
        have e3 : nextBad (t ++ 10 :: q) k = false := by
          unfold nextBad; rw [e2]
          have : ((nextT t k).hi == (nextT t k).lo) = false := by rw [beq_eq_false_iff_ne]; omega
          rw [this]; rfl
        have hm := toks_more t k hk hb h0
        rw [hm] at hnone
        obtain ⟨pre, hp, hq⟩ := ih (t.length - (nextT t k).hi) (by omega) (nextT t k).hi rfl hle.2.2.1 hnone
        refine ⟨nextT t k :: pre, ?_, ?_⟩
        · rw [hm, hp]; rfl
        · rw [toks_more _ k (by simp; omega) e3 (by rw [e2]; exact h0), e2, hq]; rfl
    · rw [toks_bad t k hb] at hnone
      simp at hnone
/-- Two texts that have tokens: one behind the other they have both's. -/
theorem toks_two (a b : List UInt8) (ha : (toks a 0).2 = none) (hb : (toks b 0).2 = none) : ∃ pre, (toks a 0).1 = pre ++ [⟨0, a.length, a.length⟩] ∧ toks (a ++ 10 :: b) 0 = (pre ++ (toks b 0).1.map (shift (a.length + 1)), none) := by
  obtain ⟨pre, hp, hq⟩ := toks_nl a b _ 0 rfl (Nat.zero_le _) ha
  refine ⟨pre, hp, ?_⟩
  have h := toks_shift (a ++ [10]) b _ 0 rfl (Nat.zero_le _)
  rw [List.append_assoc, show [10] ++ b = 10 :: b from rfl, List.length_append, show ([10] : List UInt8).length = 1 from rfl, Nat.add_zero, hb] at h
  rw [hq, h]
  rfl
end Go.Proofs.YtccmodefjgjpeaaGreatDoor
