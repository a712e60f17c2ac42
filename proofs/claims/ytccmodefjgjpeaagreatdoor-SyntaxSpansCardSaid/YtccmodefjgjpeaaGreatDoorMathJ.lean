/-
  Plain facts on tokens: a comment behind a text; tokens' bytes joined by blanks.
-/
import Derived.Test.YtccmodefjgjpeaaGreatDoorMathB
namespace Go.Proofs.YtccmodefjgjpeaaGreatDoor

/-! ### a comment behind -/
def tailC (c : List UInt8) : List UInt8 := 10 :: 35 :: c
theorem skipL_in (c : List UInt8) (h : ∀ d ∈ c, d ≠ 10) : skipL true c = c.length := by
  induction c with
  | nil => rfl
  | cons d c ih =>
    simp only [skipL]
    rw [if_neg (h d (by simp)), ih (fun e he => h e (by simp [he]))]
    simp
theorem skipL_f (d : UInt8) (r : List UInt8) : skipL false (d :: r) = if isBl d then skipL false r + 1 else if d = 35 then skipL true r + 1 else 0 := rfl
theorem skipL_t (d : UInt8) (r : List UInt8) : skipL true (d :: r) = if d = 10 then skipL false r + 1 else skipL true r + 1 := rfl
theorem skipL_tail (c : List UInt8) (h : ∀ d ∈ c, d ≠ 10) (b : Bool) (r : List UInt8) : (skipL b r < r.length → skipL b (r ++ tailC c) = skipL b r) ∧ (skipL b r = r.length → skipL b (r ++ tailC c) = r.length + (tailC c).length) := by
  induction r generalizing b with
  | nil =>
    have hin := skipL_in c h
    have e1 : skipL false (35 :: c) = c.length + 1 := by
      rw [skipL_f, if_neg (by decide), if_pos rfl, hin]
    refine ⟨fun h => by simp at h, fun _ => ?_⟩
    rw [List.nil_append, tailC]
    cases b
    · rw [skipL_f, if_pos (by decide), e1]; simp
    · rw [skipL_t, if_pos rfl, e1]; simp
  | cons d r ih =>
    have h1 := ih true
    have h2 := ih false
    rw [List.cons_append]
    cases b
    · rw [skipL_f, skipL_f, List.length_cons]
      by_cases hb : isBl d = true
      · rw [if_pos hb, if_pos hb]
        exact ⟨fun h => by rw [h2.1 (by omega)], fun h => by rw [h2.2 (by omega)]; omega⟩
      · rw [if_neg hb, if_neg hb]
        by_cases hh : d = 35
        · rw [if_pos hh, if_pos hh]
          exact ⟨fun h => by rw [h1.1 (by omega)], fun h => by rw [h1.2 (by omega)]; omega⟩
        · rw [if_neg hh, if_neg hh]
          exact ⟨fun _ => rfl, fun h => by omega⟩
    · rw [skipL_t, skipL_t, List.length_cons]
      by_cases hn : d = 10
      · rw [if_pos hn, if_pos hn]
        exact ⟨fun h => by rw [h2.1 (by omega)], fun h => by rw [h2.2 (by omega)]; omega⟩
      · rw [if_neg hn, if_neg hn]
        exact ⟨fun h => by rw [h1.1 (by omega)], fun h => by rw [h1.2 (by omega)]; omega⟩
theorem run_tail (p : UInt8 → Bool) (r q : List UInt8) (hq : run p q = 0) : run p (r ++ q) = run p r := by
  induction r with
  | nil => rw [List.nil_append, hq]; rfl
  | cons c r ih => rw [List.cons_append, run_cons, run_cons, ih]
theorem tokL_tail (r c : List UInt8) (hr : r ≠ []) : tokL (r ++ tailC c) = tokL r := by
  cases r with
  | nil => exact absurd rfl hr
  | cons d r =>
    have ha : run isAl (d :: r ++ tailC c) = run isAl (d :: r) := run_tail isAl _ _ (by simp [tailC, run_cons, isAl_10])
    have hd : run isDig (d :: r ++ tailC c) = run isDig (d :: r) := run_tail isDig _ _ (by simp [tailC, run_cons, show isDig 10 = false from by decide])
    have hla := run_le isAl (d :: r)
    have hld := run_le isDig (d :: r)
    have hta : (d :: r ++ tailC c).take (run isAl (d :: r)) = (d :: r).take (run isAl (d :: r)) := by
      rw [List.take_append, show run isAl (d :: r) - (d :: r).length = 0 from by omega, List.take_zero, List.append_nil]
    have hnb : numBad (d :: r ++ tailC c) (run isDig (d :: r)) = numBad (d :: r) (run isDig (d :: r)) := by
      unfold numBad
      have hh : (d :: r ++ tailC c).head? = (d :: r).head? := by simp
      rw [hh]
      congr 1
      rcases Nat.lt_or_ge (run isDig (d :: r)) (d :: r).length with h | h
      · rw [List.getElem?_append_left h]
      · have e : run isDig (d :: r) = (d :: r).length := by omega
        have e5 : (d :: r)[run isDig (d :: r)]? = none := List.getElem?_eq_none (by omega)
        rw [List.getElem?_append_right h, e5, e, Nat.sub_self]
        rfl
    have hsg : signL (d :: r ++ tailC c) = signL (d :: r) := by
      unfold signL
      have e1 : (d :: r ++ tailC c).take 1 = (d :: r).take 1 := by simp
      cases r with
      | nil =>
        have e2 : isTwo (([d] ++ tailC c).take 2) = false := two_ne d 10 (.inr rfl)
        have e3 : isTwo ([d].take 2) = false := by rw [Bool.eq_false_iff]; intro h; have := two_len _ h; simp at this
        rw [e1, e2, e3]
      | cons e r =>
        have e2 : (d :: e :: r ++ tailC c).take 2 = (d :: e :: r).take 2 := by simp
        rw [e1, e2]
    rw [List.cons_append] at ha hd hta hnb hsg ⊢
    simp only [tokL]
    rw [ha, hd, hta, hnb, hsg]

def endTo (n : Nat) (x : Tok) : Tok := if x.kind = 0 then ⟨0, n, n⟩ else x
theorem toks_tail (t c : List UInt8) (hc : ∀ d ∈ c, d ≠ 10) : ∀ n k, t.length - k = n → k ≤ t.length → (toks t k).2 = none →
    toks (t ++ tailC c) k = ((toks t k).1.map (endTo (t ++ tailC c).length), none) := by
  intro n
  induction n using Nat.strongRecOn with
  | ind n ih =>
    intro k hn hk hnone
    have hle := nextT_le t k hk
    have hlo : skipTo false t k = (nextT t k).lo := rfl
    have hdr : (t ++ tailC c).drop k = t.drop k ++ tailC c := by rw [List.drop_append, show k - t.length = 0 from by omega, List.drop_zero]
    have hsk := skipL_tail c hc false (t.drop k)
    have hlt : (tailC c).length = c.length + 2 := by simp [tailC]
    cases hb : nextBad t k
    · by_cases h0 : (nextT t k).kind = 0
      · have hend := nextT_end t k hk hb h0
        rw [hend] at hlo
        have hs : skipL false (t.drop k) = (t.drop k).length := by
          unfold skipTo at hlo; dsimp only at hlo; rw [List.length_drop]; omega
        have hsk := hsk.2 hs
        have e1 : skipTo false (t ++ tailC c) k = (t ++ tailC c).length := by
          unfold skipTo; rw [hdr, hsk]; simp; omega
        have e2 : nextT (t ++ tailC c) k = ⟨0, (t ++ tailC c).length, (t ++ tailC c).length⟩ := by
          simp only [nextT, e1, List.drop_length, tokL, Nat.add_zero]
        have e3 : nextBad (t ++ tailC c) k = false := by unfold nextBad; rw [e2]; simp
        rw [toks_end t k hb h0, toks_end _ k e3 (by rw [e2]), e2]
        simp [endTo, h0]
      · have hkd := nextT_kind t k h0
        have hs : skipL false (t.drop k) < (t.drop k).length := by
          unfold skipTo at hlo; rw [List.length_drop]; omega
        have hsk := hsk.1 hs
        have e1 : skipTo false (t ++ tailC c) k = skipTo false t k := by
          unfold skipTo; rw [hdr, hsk]
        have e2 : nextT (t ++ tailC c) k = nextT t k := by
          simp only [nextT, e1]
          have e4 : (t ++ tailC c).drop (skipTo false t k) = t.drop (skipTo false t k) ++ tailC c := by
            rw [List.drop_append, show skipTo false t k - t.length = 0 from by omega, List.drop_zero]
          rw [e4, tokL_tail _ c (by intro e; have := congrArg List.length e; simp at this; omega)]
        have e3 : nextBad (t ++ tailC c) k = false := by
          unfold nextBad; rw [e2]
          have : ((nextT t k).hi == (nextT t k).lo) = false := by rw [beq_eq_false_iff_ne]; omega
          rw [this]; rfl
        have hm := toks_more t k hk hb h0
        rw [hm] at hnone
        rw [hm, toks_more _ k (by simp; omega) e3 (by rw [e2]; exact h0), e2, ih (t.length - (nextT t k).hi) (by omega) (nextT t k).hi rfl hle.2.2.1 hnone]
        simp [endTo, h0]
    · rw [toks_bad t k hb] at hnone
      simp at hnone

/-! ### joined by blanks -/
def joinL (l : List (Nat × List UInt8)) : List UInt8 := l.flatMap fun x => x.2 ++ [32]
theorem joinL_cons (x : Nat × List UInt8) (l : List (Nat × List UInt8)) : joinL (x :: l) = x.2 ++ 32 :: joinL l := by simp [joinL]
/-- A kind and bytes that are a token wherever they stand apart. -/
def GoodT (x : Nat × List UInt8) : Prop := x.1 ≠ 0 ∧ ∀ q, Sep q → tokL (x.2 ++ q) = (x.1, x.2.length)
def placeT : Nat → List (Nat × List UInt8) → List Tok
  | p, [] => [⟨0, p, p⟩]
  | p, x :: r => ⟨x.1, p, p + x.2.length⟩ :: placeT (p + x.2.length + 1) r
theorem toks_join (l : List (Nat × List UInt8)) : ∀ (a : List UInt8), (∀ x ∈ l, GoodT x) → toks (a ++ joinL l) a.length = (placeT a.length l, none) := by
  induction l with
  | nil =>
    intro a _
    have e0 : joinL [] = [] := rfl
    rw [e0, List.append_nil]
    have e1 : nextT a a.length = ⟨0, a.length, a.length⟩ := by
      simp only [nextT, skipTo_end false a a.length (Nat.le_refl _), List.drop_length, tokL, Nat.add_zero]
    have e2 : nextBad a a.length = false := by unfold nextBad; rw [e1]; simp
    rw [toks_end a a.length e2 (by rw [e1]), e1]
    rfl
  | cons x r ih =>
    intro a hg
    obtain ⟨hk, hx⟩ := hg x (by simp)
    have hsep : Sep (32 :: joinL r) := .inr ⟨32, _, rfl, .inl rfl⟩
    have htk := hx _ hsep
    have hz := tokL_zero (x.2 ++ 32 :: joinL r)
    rw [htk] at hz
    dsimp only at hz
    have hpos : 0 < x.2.length := by
      have : x.2.length ≠ 0 := fun e => hk (hz.2 e)
      omega
    obtain ⟨xk, xb⟩ := x
    cases xb with
    | nil => simp at hpos
    | cons c cs =>
      dsimp only at hk hx htk hpos ⊢
      have hf := tokL_first c (cs ++ 32 :: joinL r) (by rw [← List.cons_append, htk]; exact hk)
      rw [joinL_cons]
      dsimp only
      have hd : (a ++ (c :: cs ++ 32 :: joinL r)).drop a.length = c :: cs ++ 32 :: joinL r := List.drop_left
      have hs0 : skipL false (c :: cs ++ 32 :: joinL r) = 0 := by
        rw [List.cons_append]
        simp only [skipL]
        rw [if_neg (by rw [hf.1]; simp), if_neg hf.2]
      have e0 : skipTo false (a ++ (c :: cs ++ 32 :: joinL r)) a.length = a.length := by
        unfold skipTo; rw [hd, hs0, Nat.add_zero]
      have e1 : nextT (a ++ (c :: cs ++ 32 :: joinL r)) a.length = ⟨xk, a.length, a.length + (c :: cs).length⟩ := by
        simp only [nextT, e0, hd, htk]
      have e2 : nextBad (a ++ (c :: cs ++ 32 :: joinL r)) a.length = false := by
        unfold nextBad; rw [e1]
        have : (a.length + (c :: cs).length == a.length) = false := by rw [beq_eq_false_iff_ne]; omega
        dsimp only
        rw [this]; rfl
      rw [toks_more _ a.length (by simp) e2 (by rw [e1]; exact hk), e1]
      dsimp only
      have hlen : (a ++ (c :: cs ++ 32 :: joinL r)).length = a.length + (c :: cs).length + 1 + (joinL r).length := by
        simp only [List.length_append, List.length_cons]; omega
      have hget : (a ++ (c :: cs ++ 32 :: joinL r))[a.length + (c :: cs).length]'(by omega) = 32 := by
        rw [List.getElem_append_right (by omega)]
        simp
      have hfrom := toks_from (a ++ (c :: cs ++ 32 :: joinL r)) (a.length + (c :: cs).length) (a.length + (c :: cs).length + 1) (by omega) (by omega)
        (skipTo_blank _ _ (by omega) (by rw [hget]; decide)).symm
      have hih := ih (a ++ (c :: cs) ++ [32]) (fun y hy => hg y (by simp [hy]))
      have ha : a ++ (c :: cs) ++ [32] ++ joinL r = a ++ (c :: cs ++ 32 :: joinL r) := by simp
      have hal : (a ++ (c :: cs) ++ [32]).length = a.length + (c :: cs).length + 1 := by simp only [List.length_append, List.length_cons, List.length_nil]
      rw [ha, hal] at hih
      rw [hfrom, hih]
      rfl
theorem placeT_len (l : List (Nat × List UInt8)) : ∀ p, (placeT p l).length = l.length + 1 := by
  induction l with
  | nil => intro p; rfl
  | cons x r ih => intro p; simp [placeT, ih]
theorem placeT_get (l : List (Nat × List UInt8)) : ∀ (a : List UInt8) (i : Nat) (h : i < l.length), ∃ q, (placeT a.length l)[i]? = some ⟨(l[i]).1, q, q + (l[i]).2.length⟩ ∧ ((a ++ joinL l).drop q).take (l[i]).2.length = (l[i]).2 ∧ q + (l[i]).2.length ≤ (a ++ joinL l).length := by
  induction l with
  | nil => intro a i h; simp at h
  | cons x r ih =>
    intro a i h
    cases i with
    | zero =>
      refine ⟨a.length, by simp [placeT], ?_, ?_⟩
      · rw [List.drop_left, joinL_cons]; simp
      · rw [joinL_cons]; simp
    | succ i =>
      obtain ⟨q, h1, h2, h3⟩ := ih (a ++ x.2 ++ [32]) i (by simpa using h)
      have ha : a ++ x.2 ++ [32] ++ joinL r = a ++ joinL (x :: r) := by rw [joinL_cons]; simp
      have hal : (a ++ x.2 ++ [32]).length = a.length + x.2.length + 1 := by simp; omega
      rw [ha] at h2 h3
      rw [hal] at h1
      exact ⟨q, by simpa [placeT] using h1, by simpa using h2, by simpa using h3⟩
theorem placeT_end (l : List (Nat × List UInt8)) : ∀ (a : List UInt8), (placeT a.length l)[l.length]? = some ⟨0, (a ++ joinL l).length, (a ++ joinL l).length⟩ := by
  induction l with
  | nil => intro a; simp [placeT, joinL]
  | cons x r ih =>
    intro a
    have h := ih (a ++ x.2 ++ [32])
    have ha : a ++ x.2 ++ [32] ++ joinL r = a ++ joinL (x :: r) := by rw [joinL_cons]; simp
    have hal : (a ++ x.2 ++ [32]).length = a.length + x.2.length + 1 := by simp; omega
    rw [ha, hal] at h
    simpa [placeT] using h

/-- A token's bytes. -/
def bytesOf (t : List UInt8) (x : Tok) : List UInt8 := (t.drop x.lo).take (x.hi - x.lo)
/-- Texts with one blank between them. -/
def sJoin (ws : List (List UInt8)) : List UInt8 := match ws with | [] => [] | w :: r => w ++ r.flatMap fun v => 32 :: v
theorem sJoin_snoc (ws : List (List UInt8)) (w : List UInt8) : sJoin (ws ++ [w]) = if ws.length = 0 then w else sJoin ws ++ 32 :: w := by
  cases ws with
  | nil => simp [sJoin]
  | cons v r => simp [sJoin]
theorem blanks_turn (r : List (Nat × List UInt8)) : (r.flatMap fun v => 32 :: v.2) ++ [32] = 32 :: joinL r := by
  induction r with
  | nil => rfl
  | cons x r ih =>
    rw [List.flatMap_cons, List.append_assoc, ih, joinL_cons]
    simp
theorem sJoin_join (l : List (Nat × List UInt8)) : sJoin (l.map (·.2) ++ [[]]) = joinL l := by
  cases l with
  | nil => simp [sJoin, joinL]
  | cons x r =>
    rw [joinL_cons]
    have := blanks_turn r
    simp only [sJoin, List.map_cons, List.cons_append, List.flatMap_append, List.flatMap_map]
    rw [show ([[]] : List (List UInt8)).flatMap (fun v => 32 :: v) = [32] from rfl, this]
theorem toks_sum (t : List UInt8) : ∀ n k, t.length - k = n → k ≤ t.length → (((toks t k).1).map fun x => x.hi - x.lo).sum + k ≤ t.length := by
  intro n
  induction n using Nat.strongRecOn with
  | ind n ih =>
    intro k hn hk
    have hle := nextT_le t k hk
    cases hb : nextBad t k
    · by_cases h0 : (nextT t k).kind = 0
      · rw [toks_end t k hb h0]; simp; omega
      · have hkd := nextT_kind t k h0
        rw [toks_more t k hk hb h0]
        have := ih (t.length - (nextT t k).hi) (by omega) (nextT t k).hi rfl hle.2.2.1
        simp; omega
    · rw [toks_bad t k hb]; simpa using hk

/-- All that the joined text's tokens are. -/
theorem joined (t : List UInt8) (l : List Tok) (h : toks t 0 = (l, none)) :
    ∃ m, toks (sJoin (l.map (bytesOf t))) 0 = (m, none) ∧ m.length = l.length ∧ ∀ i (hi : i < l.length) (hm : i < m.length), (m[i]).kind = (l[i]).kind ∧ bytesOf (sJoin (l.map (bytesOf t))) m[i] = bytesOf t l[i] ∧ (m[i]).lo ≤ (m[i]).hi ∧ (m[i]).hi ≤ (sJoin (l.map (bytesOf t))).length := by
  have hall : ∀ i (hi : i < l.length), ∃ k, GoI t l i k := by
    intro i
    induction i with
    | zero => intro hi; exact ⟨0, goI_start t l h⟩
    | succ i ih =>
      intro hi
      obtain ⟨k, hk⟩ := ih (by omega)
      exact ⟨_, (goI_step t l i k hk (by omega)).2.2.2.2.2.2.2.2.2.2.2⟩
  have hne : l ≠ [] := by have := toks_ne t 0 (Nat.zero_le _) (by rw [h]); rwa [h] at this
  obtain ⟨l0, z, rfl⟩ : ∃ l0 z, l = l0 ++ [z] := ⟨l.dropLast, l.getLast hne, (List.dropLast_concat_getLast hne).symm⟩
  have hz : z = ⟨0, t.length, t.length⟩ := by
    obtain ⟨k, hk⟩ := hall l0.length (by simp)
    have hs := goI_step t _ _ k hk (by simp)
    have e : (l0 ++ [z])[l0.length]'(by simp) = z := by simp
    rw [e] at hs
    exact hs.2.2.2.2.2.2.2.2.2.1 (hs.2.2.2.2.2.2.1.2 (by simp))
  have hbz : bytesOf t z = [] := by rw [hz]; simp [bytesOf]
  let items := l0.map fun x => (x.kind, bytesOf t x)
  have hw : (l0 ++ [z]).map (bytesOf t) = items.map (·.2) ++ [[]] := by
    simp [items, hbz, Function.comp_def]
  have hgood : ∀ x ∈ items, GoodT x := by
    intro x hx
    obtain ⟨y, hy, rfl⟩ := List.mem_map.1 hx
    obtain ⟨i, hi, rfl⟩ := List.mem_iff_getElem.1 hy
    obtain ⟨k, hk⟩ := hall i (by simp; omega)
    have hs := goI_step t _ _ k hk (by simp; omega)
    have e : (l0 ++ [z])[i]'(by simp; omega) = l0[i] := List.getElem_append_left hi
    rw [e] at hs
    have hk0 : (l0[i]).kind ≠ 0 := fun e0 => by
      have := hs.2.2.2.2.2.2.1.1 e0
      simp at this; omega
    have htk := hs.2.2.2.2.2.2.2.2.1 hk0
    refine ⟨hk0, fun q hq => ?_⟩
    have hl := tokL_le (t.drop (l0[i]).lo)
    rw [htk] at hl
    dsimp only at hl ⊢
    have hlen : (bytesOf t l0[i]).length = (l0[i]).hi - (l0[i]).lo := by unfold bytesOf; rw [List.length_take]; omega
    rw [hlen]
    exact tokL_sep _ q _ _ htk hk0 hq
  rw [hw, sJoin_join]
  have hj := toks_join items [] hgood
  rw [List.nil_append, List.length_nil] at hj
  refine ⟨_, hj, ?_, ?_⟩
  · rw [placeT_len]; simp [items]
  · intro i hi hm
    have hil : items.length = l0.length := by simp [items]
    by_cases hlt : i < l0.length
    · obtain ⟨q, h1, h2, h3⟩ := placeT_get items [] i (by omega)
      rw [List.length_nil] at h1
      rw [List.nil_append] at h2 h3
      have e : (placeT 0 items)[i] = ⟨(items[i]).1, q, q + (items[i]).2.length⟩ := Option.some.inj ((List.getElem?_eq_getElem hm).symm.trans h1)
      have e2 : (l0 ++ [z])[i]'hi = l0[i] := List.getElem_append_left hlt
      have e3 : items[i]'(by omega) = (l0[i].kind, bytesOf t l0[i]) := by simp [items]
      rw [e, e2]
      rw [e3] at h2 h3 ⊢
      dsimp only at h2 h3 ⊢
      refine ⟨rfl, ?_, by omega, h3⟩
      unfold bytesOf at h2 ⊢
      dsimp only
      rw [Nat.add_sub_cancel_left]
      exact h2
    · have hie : i = items.length := by simp at hi; omega
      subst hie
      have h1 := placeT_end items []
      rw [List.length_nil, List.nil_append] at h1
      have e : (placeT 0 items)[items.length] = ⟨0, (joinL items).length, (joinL items).length⟩ := Option.some.inj ((List.getElem?_eq_getElem hm).symm.trans h1)
      have e2 : (l0 ++ [z])[items.length]'hi = z := by simp [items]
      rw [e, e2, hbz, hz]
      refine ⟨rfl, by simp [bytesOf], Nat.le_refl _, Nat.le_refl _⟩

end Go.Proofs.YtccmodefjgjpeaaGreatDoor
