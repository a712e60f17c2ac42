/-
  Two programs' texts, one behind the other.
-/
import Derived.Test.YtccmodefjgjpeaaGreatDoorSame
namespace Go.Proofs.YtccmodefjgjpeaaGreatDoor

theorem tok_func (r : List UInt8) (h : r.take (tokL r).2 = kFunc) : (tokL r).1 = 3 := by
  cases r with
  | nil => simp [kFunc] at h
  | cons c q =>
    simp only [tokL] at h ⊢
    by_cases h1 : isLet c = true
    · rw [if_pos h1] at h ⊢
      dsimp only at h ⊢
      rw [h]
      decide
    · rw [if_neg h1] at h ⊢
      have hc : ∀ n, n ≠ 0 → (c :: q).take n = kFunc → False := fun n hn he => by
        obtain ⟨m, rfl⟩ : ∃ m, n = m + 1 := ⟨n - 1, by omega⟩
        rw [List.take_succ_cons] at he
        have : c = 102 := (List.cons.inj he).1
        subst this
        exact h1 (by decide)
      exfalso
      by_cases h2 : isDig c = true
      · rw [if_pos h2] at h
        by_cases h3 : numBad (c :: q) (run isDig (c :: q)) = true
        · rw [if_pos h3] at h; simp [kFunc] at h
        · rw [if_neg h3] at h
          refine hc _ (fun e => ?_) h
          dsimp only at e h
          rw [e] at h
          simp [kFunc] at h
      · rw [if_neg h2] at h
        by_cases h3 : signL (c :: q) = 0
        · rw [if_pos h3] at h; simp [kFunc] at h
        · rw [if_neg h3] at h
          exact hc _ h3 h
/-- The first token of a program. -/
theorem first_func (t : List UInt8) (hn : (toks t 0).2 = none) (h : (cur (tksL t) start).txt = kFunc) : (cur (tksL t) start).kind = 3 := by
  have e : ∃ r, (toks t 0).1 = nextT t 0 :: r := by
    unfold toks at hn ⊢
    simp only [toksF] at hn ⊢
    by_cases h1 : nextBad t 0 = true
    · rw [if_pos h1] at hn; simp at hn
    · rw [if_neg h1]
      by_cases h0 : (nextT t 0).kind = 0
      · rw [if_pos h0]; exact ⟨[], rfl⟩
      · rw [if_neg h0]; exact ⟨_, rfl⟩
  obtain ⟨r, hr⟩ := e
  have e2 : cur (tksL t) start = tkOf t (nextT t 0) := by
    unfold cur tksL
    rw [hr]
    rfl
  rw [e2] at h ⊢
  refine tok_func (t.drop (skipTo false t 0)) ?_
  rw [← h]
  simp only [tkOf, bytesOf, nextT, Nat.add_sub_cancel_left]
theorem few_fun {T : List Tk} {s s1 : Sg} (h : functionM T s = .ok () s1) : s.fn.length ≠ 32 := by
  intro h32
  unfold functionM at h
  by_cases hc : isP T [kFunc] s = true
  · rw [hc, h32] at h; simp at h
  · rw [Bool.not_eq_true] at hc
    rw [hc] at h
    rw [if_neg (by simp), bd_no (show takeP T [kFunc] s = .no 3 s.at_ by unfold takeP; rw [hc]; rfl)] at h
    cases h
theorem few_prog {M : Mv} {T T' : List Tk} {n : Nat} (hM : MvOk M T T' n) : ∀ k s s1, s.at_ ≤ n → s.st.length ≤ s.at_ → s.fn.length ≤ 32 → programL T k s = .ok () s1 → s1.fn.length ≤ 32
  | 0, _, _, _, _, _, h => by unfold programL at h; cases h
  | k + 1, s, s1, hn, hl, h3, h => by
    rcases programL_inv h with ⟨_, rfl⟩ | ⟨_, s2, h1, h2⟩
    · exact h3
    · obtain ⟨f1, f2, f3, f4, f5⟩ := fun_facts hM hn hl h1
      have := few_fun h1
      exact few_prog hM k s2 s1 f1 f2 (by omega) h2
/-- A text's tokens, as they lie in a list of tokens. -/
theorem mv_self (t : List UInt8) (hn : (toks t 0).2 = none) (pre : List Tok) (e2 : tksL t = pre.map (tkOf t) ++ [⟨0, t.length, t.length, []⟩]) (M : Mv) (hz : M.z = true → M.c = 0 ∧ M.E = [] ∧ M.S = []) (T' : List Tk) (hl : pre.length < T'.length) (hf : M.S.length + pre.length ≤ 1000)
    (ht : ∀ i (h : i < pre.length), T'.getD (M.m + i) ⟨0, 0, 0, []⟩ = { tkOf t pre[i] with lo := (tkOf t pre[i]).lo + M.c, hi := (tkOf t pre[i]).hi + M.c })
    (hl' : ((T'.getD (M.m + pre.length) ⟨0, 0, 0, []⟩).kind ≠ 1 ∧ (T'.getD (M.m + pre.length) ⟨0, 0, 0, []⟩).kind ≠ 2) ∧ ((T'.getD (M.m + pre.length) ⟨0, 0, 0, []⟩).txt = [] ∨ (T'.getD (M.m + pre.length) ⟨0, 0, 0, []⟩).txt = kFunc)) :
    MvOk M (tksL t) T' pre.length := by
  have hok := tksL_ok t hn
  refine ⟨hz, hok, by rw [e2]; simp, by rw [e2]; simp; omega, fun i hi => ?_, ?_, hl', hf⟩
  · rw [ht i hi, e2, getD_pre _ _ _ i (by simpa using hi), List.getElem_map]
  · have := getD_suf ⟨0, 0, 0, []⟩ (pre.map (tkOf t)) [⟨0, t.length, t.length, []⟩] 0
    rw [List.length_map, Nat.add_zero] at this
    rw [e2, this]
    exact ⟨rfl, rfl⟩
theorem kind_ne (t : List UInt8) (pre : List Tok) (hin : ∀ x ∈ pre, Inner t 0 x) (e2 : tksL t = pre.map (tkOf t) ++ [⟨0, t.length, t.length, []⟩]) : ∀ i, i < pre.length → ((tksL t).getD i ⟨0, 0, 0, []⟩).kind ≠ 0 := fun i hi => by
  rw [e2, getD_pre _ _ _ i (by simpa using hi), List.getElem_map]
  exact inner_kind hin i hi
theorem pre_len (t : List UInt8) (pre : List Tok) (e1 : (toks t 0).1 = pre ++ [⟨0, t.length, t.length⟩]) : pre.length ≤ t.length := by
  have hlen := toks_len' t
  rw [e1] at hlen
  simp only [List.length_append, List.length_singleton] at hlen
  omega
theorem parse_few (t : List UInt8) (hl : t.length ≤ 900) {s : Sg} (h : parseT t = .good s) : s.fn.length ≤ 32 ∧ s.st.length ≤ t.length := by
  obtain ⟨hn, hp⟩ := parse_ok h
  obtain ⟨pre, e1, hin, e2⟩ := tks_form t hn
  have hpl := pre_len t pre e1
  have hend := getD_suf ⟨0, 0, 0, []⟩ (pre.map (tkOf t)) [⟨0, t.length, t.length, []⟩] 0
  rw [List.length_map, Nat.add_zero] at hend
  have hM : MvOk idM (tksL t) (tksL t) pre.length := mv_self t hn pre e2 idM (fun h => by cases h) _ (by rw [e2]; simp) (by simp [idM]; omega) (fun i h => by
    rw [show idM.m + i = i from Nat.zero_add i, e2, getD_pre _ _ _ i (by simpa using h), List.getElem_map]
    rfl) (by
    rw [show idM.m + pre.length = pre.length from Nat.zero_add _, e2, hend]
    exact ⟨⟨Nat.zero_ne_one, Nat.ne_of_lt (Nat.zero_lt_succ 1)⟩, .inl rfl⟩)
  obtain ⟨s2, h1, h2⟩ := programM_inv hp
  obtain ⟨f1, f2, f3, f4, f5⟩ := fun_facts hM (Nat.zero_le _) (Nat.le_refl _) h1
  have hf : start.fn.length = 0 := rfl
  have hpf := prog_facts hM (kind_ne t pre hin e2) _ s2 s f1 f2 h2
  exact ⟨few_prog hM _ s2 s f1 f2 (by omega) h2, by omega⟩
/-- What of two programs is one's behind the other. -/
def TwoAt (c : Nat) (s1 s2 s : Sg) : Prop := s.fn.length = s1.fn.length + s2.fn.length ∧ s.st.length = s1.st.length + s2.st.length ∧ s.ex.length = s1.ex.length + s2.ex.length ∧
  ∀ i (h : i < s2.st.length) (h' : s1.st.length + i < s.st.length), s.st[s1.st.length + i].kind = s2.st[i].kind ∧ s.st[s1.st.length + i].lo = s2.st[i].lo + c ∧ s.st[s1.st.length + i].hi = s2.st[i].hi + c
theorem parse_two (a b : List UInt8) (ha : a.length ≤ 500) (hb : b.length ≤ 500) {s1 s2 : Sg} (h1 : parseT a = .good s1) (h2 : parseT b = .good s2) :
    (s1.fn.length + s2.fn.length ≤ 32 → ∃ s, parseT (a ++ 10 :: b) = .good s ∧ TwoAt (a.length + 1) s1 s2 s) ∧ (32 < s1.fn.length + s2.fn.length → ∃ p, parseT (a ++ 10 :: b) = .bad p 5) := by
  obtain ⟨hn1, hp1⟩ := parse_ok h1
  obtain ⟨hn2, hp2⟩ := parse_ok h2
  obtain ⟨pre1, a1, hin1, a2⟩ := tks_form a hn1
  obtain ⟨pre2, b1, hin2, b2⟩ := tks_form b hn2
  have hl1 := pre_len a pre1 a1
  have hl2 := pre_len b pre2 b1
  obtain ⟨pre1', c1, c2⟩ := toks_two a b hn1 hn2
  obtain rfl : pre1 = pre1' := by
    rw [a1] at c1
    exact (List.append_inj_left' c1 rfl)
  have hnT : (toks (a ++ 10 :: b) 0).2 = none := by rw [c2]
  have hsh : ∀ x : Tok, tkOf (a ++ 10 :: b) (shift (a.length + 1) x) = { tkOf b x with lo := (tkOf b x).lo + (a.length + 1), hi := (tkOf b x).hi + (a.length + 1) } := fun x => by
    have := bytes_behind (a ++ [10]) b x
    rw [List.append_assoc, List.length_append] at this
    exact this
  have hT : tksL (a ++ 10 :: b) = pre1.map (tkOf a) ++ (tksL b).map fun y => { y with lo := y.lo + (a.length + 1), hi := y.hi + (a.length + 1) } := by
    unfold tksL
    rw [c2, List.map_append, List.map_map, List.map_map]
    congr 1
    · refine List.map_congr_left fun x hx => ?_
      obtain ⟨_, _, d3, _⟩ := hin1 x hx
      exact bytes_ahead _ _ _ d3
    · refine List.map_congr_left fun x _ => ?_
      exact hsh x
  have hTok := tksL_ok (a ++ 10 :: b) hnT
  have g1 : ∀ i (h : i < pre1.length), (tksL (a ++ 10 :: b)).getD i ⟨0, 0, 0, []⟩ = tkOf a pre1[i] := fun i h => by
    rw [hT, getD_pre _ _ _ i (by simpa using h), List.getElem_map]
  have g2 : ∀ i (h : i < (tksL b).length), (tksL (a ++ 10 :: b)).getD (pre1.length + i) ⟨0, 0, 0, []⟩ = { (tksL b)[i] with lo := (tksL b)[i].lo + (a.length + 1), hi := (tksL b)[i].hi + (a.length + 1) } := fun i h => by
    have := getD_suf ⟨0, 0, 0, []⟩ (pre1.map (tkOf a)) ((tksL b).map fun y => { y with lo := y.lo + (a.length + 1), hi := y.hi + (a.length + 1) }) i
    rw [List.length_map] at this
    rw [hT, this, List.getD_eq_getElem?_getD, List.getElem?_map, List.getElem?_eq_getElem h]
    rfl
  have hTl : (tksL (a ++ 10 :: b)).length = pre1.length + (pre2.length + 1) := by rw [hT, b2]; simp
  have hbl : (tksL b).length = pre2.length + 1 := by rw [b2]; simp
  -- the first token behind
  obtain ⟨s2', q1, q2⟩ := programM_inv hp2
  have hMb : MvOk idM (tksL b) (tksL b) pre2.length := mv_self b hn2 pre2 b2 idM (fun h => by cases h) _ (by omega) (by simp [idM]; omega) (fun i h => by
    rw [show idM.m + i = i from Nat.zero_add i, b2, getD_pre _ _ _ i (by simpa using h), List.getElem_map]
    rfl) (by
    have hend := getD_suf ⟨0, 0, 0, []⟩ (pre2.map (tkOf b)) [⟨0, b.length, b.length, []⟩] 0
    rw [List.length_map, Nat.add_zero] at hend
    rw [show idM.m + pre2.length = pre2.length from Nat.zero_add _, b2, hend]
    exact ⟨⟨Nat.zero_ne_one, Nat.ne_of_lt (Nat.zero_lt_succ 1)⟩, .inl rfl⟩)
  obtain ⟨_, _, _, _, _, _, _, hfunc⟩ := sim_function hMb (rs_refl start) (Nat.zero_le _) (Nat.le_refl _) q1
  have hft : (cur (tksL b) start).txt = kFunc := by
    unfold isP at hfunc
    simpa using hfunc
  have hfk := first_func b hn2 hft
  have hc0 : cur (tksL b) start = (tksL b)[0]'(by omega) := by
    unfold cur
    rw [List.getD_eq_getElem?_getD, List.getElem?_eq_getElem (show start.at_ < (tksL b).length by rw [hbl]; exact Nat.zero_lt_succ _)]
    rfl
  have gF := g2 0 (by omega)
  rw [← hc0, Nat.add_zero] at gF
  have hM1 : MvOk ⟨0, 0, [], [], [], true⟩ (tksL a) (tksL (a ++ 10 :: b)) pre1.length := mv_self a hn1 pre1 a2 _ (fun _ => ⟨rfl, rfl, rfl⟩) _ (by omega) (by simp; omega) (fun i h => by
    rw [show (⟨0, 0, [], [], [], true⟩ : Mv).m + i = i from Nat.zero_add i, g1 i h]
    rfl) (by
    rw [show (⟨0, 0, [], [], [], true⟩ : Mv).m + pre1.length = pre1.length from Nat.zero_add _, gF]
    dsimp only
    rw [hfk, hft]
    exact ⟨⟨by decide, by decide⟩, .inr rfl⟩)
  obtain ⟨f32, _⟩ := parse_few a (by omega) h1
  obtain ⟨p1, p2, p3, _⟩ := sim_program hM1 (kind_ne a pre1 hin1 a2) hp1 (start_rs _ rfl rfl rfl rfl) (by decide) ((tksL (a ++ 10 :: b)).length + 1) (by omega)
  obtain ⟨s1', k'', j1, j2, j3, j4⟩ := p3 (by simpa using f32)
  have hs := rs_z j1 rfl rfl rfl rfl rfl
  subst hs
  have hM2 : MvOk ⟨pre1.length, a.length + 1, s1'.ex, s1'.st, s1'.fn, false⟩ (tksL b) (tksL (a ++ 10 :: b)) pre2.length := mv_self b hn2 pre2 b2 _ (fun h => by cases h) _ (by omega) (by dsimp only; omega) (fun i h => by
    rw [g2 i (by omega)]
    have e : (tksL b)[i]'(by omega) = tkOf b pre2[i] := by
      have h1 := getD_pre ⟨0, 0, 0, []⟩ (pre2.map (tkOf b)) [⟨0, b.length, b.length, []⟩] i (by simpa using h)
      rw [← b2, List.getD_eq_getElem?_getD, List.getElem?_eq_getElem (by omega)] at h1
      simpa using h1
    rw [e]) (by
    rw [g2 pre2.length (by omega)]
    have e : (tksL b)[pre2.length]'(by omega) = ⟨0, b.length, b.length, []⟩ := by
      have h1 := getD_suf ⟨0, 0, 0, []⟩ (pre2.map (tkOf b)) [⟨0, b.length, b.length, []⟩] 0
      rw [← b2, List.length_map, Nat.add_zero, List.getD_eq_getElem?_getD, List.getElem?_eq_getElem (by omega)] at h1
      simpa using h1
    rw [e]
    exact ⟨⟨Nat.zero_ne_one, Nat.ne_of_lt (Nat.zero_lt_succ 1)⟩, .inl rfl⟩)
  have hR2 : RS ⟨pre1.length, a.length + 1, s1'.ex, s1'.st, s1'.fn, false⟩ start s1' := ⟨by rw [p1]; rfl, ⟨[], by simp, .nil⟩, ⟨[], by simp, .nil⟩, ⟨[], by simp, .nil⟩⟩
  obtain ⟨k, rfl⟩ : ∃ k, k'' = k + 1 := ⟨k'' - 1, by omega⟩
  have hgo : programM (tksL (a ++ 10 :: b)) start = bd (functionM (tksL (a ++ 10 :: b))) (fun _ => programL (tksL (a ++ 10 :: b)) k) s1' := by
    unfold programM
    rw [j4]
    conv => lhs; unfold programL
    have : isK (tksL (a ++ 10 :: b)) 0 s1' = false := by
      unfold isK cur
      rw [p1, gF]
      dsimp only
      rw [hfk]
      rfl
    rw [this]
    rfl
  obtain ⟨r1, r2, r3, r4⟩ := sim_program hM2 (kind_ne b pre2 hin2 b2) hp2 hR2 (by omega) k (by omega)
  constructor
  · intro h32
    obtain ⟨s3, k3, t1, t2, t3, t4⟩ := r3 h32
    refine ⟨s3, ?_, ?_⟩
    · obtain ⟨k3, rfl⟩ : ∃ j, k3 = j + 1 := ⟨k3 - 1, by omega⟩
      have hend : isK (tksL (a ++ 10 :: b)) 0 s3 = true := by
        unfold isK cur
        have h3 := t1.at_
        rw [h3, r1]
        rw [g2 pre2.length (by omega)]
        have e : (tksL b)[pre2.length]'(by omega) = ⟨0, b.length, b.length, []⟩ := by
          have h1 := getD_suf ⟨0, 0, 0, []⟩ (pre2.map (tkOf b)) [⟨0, b.length, b.length, []⟩] 0
          rw [← b2, List.length_map, Nat.add_zero, List.getD_eq_getElem?_getD, List.getElem?_eq_getElem (by omega)] at h1
          simpa using h1
        rw [e]
        rfl
      unfold parseT
      rw [hnT, hgo, t4]
      unfold programL
      rw [if_pos hend]
    · refine ⟨t1.fn_len, t1.st_len, t1.ex_len, fun i h h' => ?_⟩
      obtain ⟨X, x1, x2⟩ := t1.st
      have hX := x2.len
      have e : s3.st[s1'.st.length + i] = X[i]'(by omega) := by
        have : s3.st[s1'.st.length + i]? = X[i]? := by rw [x1, List.getElem?_append_right (by simp)]; simp
        rw [List.getElem?_eq_getElem h', List.getElem?_eq_getElem (by omega)] at this
        exact Option.some.inj this
      rw [e]
      obtain ⟨y1, y2, y3, _⟩ := x2.get i h (by omega)
      exact ⟨y1, y2, y3⟩
  · intro h32
    obtain ⟨i, hi⟩ := r4 h32
    refine ⟨loOf (tksL (a ++ 10 :: b)) i, ?_⟩
    unfold parseT
    rw [hnT, hgo, hi]
end Go.Proofs.YtccmodefjgjpeaaGreatDoor
