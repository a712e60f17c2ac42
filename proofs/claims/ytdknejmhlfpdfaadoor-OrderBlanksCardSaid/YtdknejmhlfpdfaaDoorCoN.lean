/-
  Names: a text that is one token, a name.
-/
import Derived.Test.YtdknejmhlfpdfaaDoorCoM
namespace Go.Proofs.YtdknejmhlfpdfaaDoor

set_option maxRecDepth 100000 in
theorem isLet_ne {c : UInt8} (h : isLet c = true) : isBl c = false ∧ c ≠ 35 := by
  have key : ∀ n : Fin 256, isLet (UInt8.ofNat n.1) = true → isBl (UInt8.ofNat n.1) = false ∧ UInt8.ofNat n.1 ≠ 35 := by decide
  have := key ⟨c.toNat, c.toNat_lt⟩
  simpa using this (by simpa using h)
theorem run_whole (p : UInt8 → Bool) (r : List UInt8) : run p r = r.length ↔ r.all p = true := by
  induction r with
  | nil => simp [run_nil]
  | cons c r ih =>
    rw [run_cons, List.all_cons]
    by_cases h : p c = true
    · rw [if_pos h, h]; simp [ih]
    · rw [if_neg h]; simp [h]
theorem isNm_next (t : List UInt8) : (nextBad t 0 = false ∧ (nextT t 0).kind = 1 ∧ (nextT t 0).lo = 0 ∧ (nextT t 0).hi = t.length) ↔ isNm t = true := by
  constructor
  · intro ⟨_, hk, hlo, hhi⟩
    have hf : skipTo false t 0 = 0 := hlo
    simp only [nextT, hf, List.drop_zero] at hk hhi
    cases t with
    | nil => simp [tokL] at hk
    | cons c r =>
      simp only [tokL] at hk hhi
      by_cases hl : isLet c = true
      · rw [if_pos hl] at hk hhi
        have hw : run isAl (c :: r) = (c :: r).length := by simpa using hhi
        rw [hw, List.take_of_length_le (Nat.le_refl _)] at hk
        have ha := (run_whole isAl (c :: r)).1 hw
        rw [List.all_cons] at ha
        have ha2 : r.all isAl = true := by simp only [Bool.and_eq_true] at ha; exact ha.2
        unfold isNm
        dsimp only
        rw [hl, ha2]
        dsimp only [nameK] at hk
        by_cases hi : isW (c :: r) = true
        · rw [if_pos hi] at hk; omega
        · simpa using hi
      · rw [if_neg hl] at hk
        by_cases hd : isDig c = true
        · rw [if_pos hd] at hk
          split at hk <;> simp at hk
        · rw [if_neg hd] at hk
          split at hk <;> simp at hk
  · intro h
    cases t with
    | nil => simp [isNm] at h
    | cons c r =>
      unfold isNm at h
      simp only [Bool.and_eq_true] at h
      obtain ⟨⟨hl, ha⟩, hw⟩ := h
      obtain ⟨n1, n2⟩ := isLet_ne hl
      have hf : skipTo false (c :: r) 0 = 0 := skipTo_other (c :: r) 0 (by simp) n1 n2
      have hr : run isAl (c :: r) = (c :: r).length := (run_whole isAl (c :: r)).2 (by rw [List.all_cons, ha]; simp [isAl, hl])
      have ht : tokL (c :: r) = (1, (c :: r).length) := by
        simp only [tokL]
        rw [if_pos hl, hr, List.take_of_length_le (Nat.le_refl _)]
        dsimp only [nameK]
        have : isW (c :: r) = false := by simpa using hw
        rw [this]
        rfl
      have e : nextT (c :: r) 0 = ⟨1, 0, (c :: r).length⟩ := by
        simp only [nextT, hf, List.drop_zero, ht, Nat.zero_add]
      unfold nextBad
      rw [e]
      simp
theorem isNm_toks (t : List UInt8) : ((toks t 0).2 = none ∧ (toks t 0).1.length = 2 ∧ ∃ x, (toks t 0).1[0]? = some x ∧ x.kind = 1 ∧ x.lo = 0 ∧ x.hi = t.length) ↔ isNm t = true := by
  rw [← isNm_next]
  constructor
  · intro ⟨h1, h2, x, hx, k1, k2, k3⟩
    by_cases hb : nextBad t 0 = true
    · rw [toks_bad t 0 hb] at h1; cases h1
    · have hb' : nextBad t 0 = false := by simpa using hb
      by_cases h0 : (nextT t 0).kind = 0
      · rw [toks_end t 0 hb' h0] at h2; simp at h2
      · rw [toks_more t 0 (by omega) hb' h0] at hx
        simp at hx
        subst hx
        exact ⟨hb', k1, k2, k3⟩
  · intro ⟨hb, k1, k2, k3⟩
    have h0 : (nextT t 0).kind ≠ 0 := by omega
    have hm := toks_more t 0 (by omega) hb h0
    rw [k3] at hm
    have hf : skipTo false t t.length = t.length := skipTo_end false t _ (Nat.le_refl _)
    have e : nextT t t.length = ⟨0, t.length, t.length⟩ := by
      simp only [nextT, hf, List.drop_length]
      rfl
    have hb2 : nextBad t t.length = false := by unfold nextBad; rw [e]; simp
    rw [toks_end t t.length hb2 (by rw [e]), e] at hm
    rw [hm]
    exact ⟨rfl, rfl, nextT t 0, rfl, k1, k2, k3⟩

end Go.Proofs.YtdknejmhlfpdfaaDoor
